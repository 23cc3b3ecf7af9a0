"""The program's answers beside those of the plain model, over many lists of calls."""

import itertools
import unittest

from asking import BIGGEST, GREEDY, GREEDY_POSITIONS, LOOKS, fleet, flat, parts, requests
from iceline.coast import answers
from numbers_of_a_seed import Numbers
from plain_model import model_answers

# How often each call stands in a list: few changes of the icebreakers, so that requests gather.
MIXED = [0] + [1] * 4 + [2, 3] + [4] * 16 + [5] * 3 + [6] + [7, 8, 9, 10, 11, 12] * 2
FEW_REQUESTS = [0, 1, 1, 1, 1, 2, 2, 3, 3, 4, 4, 5, 6, 7, 8, 9, 10, 11, 12]
FIRST_CALLS = [MIXED, MIXED, MIXED, FEW_REQUESTS]
LATER_CALLS = list(range(13, 25))
# Some of them change no icebreaker, so that the instances fill up.
ALL_CALLS = [MIXED + LATER_CALLS * 2, FEW_REQUESTS + LATER_CALLS * 2, [4] * 12 + [5] + LATER_CALLS * 2]


def a_position(numbers, span):
    if numbers.below(12) == 0:
        return numbers.one_of([0, 99, 100, 101, 4294967294, BIGGEST])
    return numbers.below(span)


def an_icebreaker(numbers):
    return numbers.one_of([0, 0, 0, 1, 1, 2, 2, 3, BIGGEST])


def a_call(numbers, choices, span):
    call = numbers.one_of(choices)
    if call == 2:
        return [call, an_icebreaker(numbers)]
    if call == 3:
        return [call, an_icebreaker(numbers), a_position(numbers, span)]
    if call == 22:
        return [call, numbers.one_of([0, 0, 1, 2, 3, 4, 5, 6, 7, 8, BIGGEST])]
    if call in (1, 4, 18, 19, 20, 23):
        return [call, a_position(numbers, span)]
    return [call]


def a_list(seed, mixes):
    numbers = Numbers(seed)
    choices = numbers.one_of(mixes)
    span = numbers.one_of([4, 10, 40, 100])
    begin = [] if numbers.below(8) == 0 else [[0]] + [[1, numbers.below(span)] for each in range(numbers.below(4))]
    length = 1 + numbers.below(40 - len(begin))
    return begin + [a_call(numbers, choices, span) for each in range(length)]


class SecondWay(unittest.TestCase):
    def check(self, calls):
        self.assertEqual(answers(calls), model_answers(calls), calls)

    def test_the_model_gives_the_documents_example(self):
        self.assertEqual(model_answers([0, 1, 10, 1, 30, 4, 18, 4, 40, 10, 13, 15, 4, 100]),
                         [1, 0, 1, 0, 1, 1, 3, 16, 18, 22, 3, 18, 18, 40, 1, 34, 1, 18, 1, 56, 1, -22])

    def test_many_mixed_lists_of_the_calls_0_to_12(self):
        for seed in range(6000):
            self.check(flat(a_list(seed, FIRST_CALLS)))

    def test_many_mixed_lists_of_all_calls(self):
        for seed in range(2400):
            self.check(flat(a_list(seed, ALL_CALLS)))

    def test_the_mixed_lists_meet_every_call_and_every_refusal(self):
        met = set()
        for seed in range(2400):
            calls = a_list(seed, ALL_CALLS)
            told = parts(answers(flat(calls)))
            met |= {(call[0], min(answer[0], 0)) for call, answer in zip(calls, told)}
        accepted = {(call, 0) for call in range(25)}
        without_instance = {(call, -11) for call in range(1, 25)}
        refused = {(1, -22), (1, -28), (2, -2), (3, -2), (3, -22), (4, -22), (4, -6), (4, -28), (5, -6)}
        refused |= {(call, -6) for call in (11, 12, 13, 14, 15, 17, 18, 19, 20)}
        refused |= {(18, -22), (19, -22), (20, -22), (22, -2), (23, -22), (23, -28)}
        self.assertEqual(met, accepted | without_instance | refused)

    def test_every_request_on_every_small_fleet(self):
        for count in (1, 2, 3):
            for starts in itertools.product(range(6), repeat=count):
                for target in range(7):
                    self.check(flat(fleet(*starts) + requests(target) + LOOKS + [GREEDY]))

    def test_every_run_of_three_requests_on_small_fleets(self):
        for starts in itertools.product((0, 3, 4, 8), repeat=3):
            for targets in itertools.product((0, 2, 4, 5, 9), repeat=3):
                self.check(flat(fleet(*starts) + requests(*targets) + LOOKS + [GREEDY]))

    def test_every_pair_of_starts_and_target(self):
        for starts in itertools.product(range(0, 100, 9), repeat=2):
            for target in range(0, 100, 3):
                self.check(flat(fleet(*starts) + requests(target) + [GREEDY, GREEDY_POSITIONS]))


if __name__ == "__main__":
    unittest.main()
