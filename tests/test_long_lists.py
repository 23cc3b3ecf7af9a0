"""Lists of 40 calls on 3 icebreakers and 8 requests, in which the calls that take longest come again and again."""

import unittest

from asking import BOUND, EXCESS, LOOKS, OPTIMAL, PLAN, ask, flat, fleet, optimal_with, requests
from asking import with_icebreaker, without
from iceline.coast import answers
from numbers_of_a_seed import Numbers
from plain_model import model_answers

LONGEST = [optimal_with, optimal_with, without, EXCESS, PLAN, OPTIMAL, BOUND]


def a_question(numbers):
    call = numbers.one_of(LONGEST)
    if call == without:
        return without(numbers.below(9))
    if call == optimal_with:
        return optimal_with(numbers.below(100))
    return call


def a_long_list(seed):
    """3 icebreakers, 8 requests, 28 questions."""
    numbers = Numbers(seed)
    span = numbers.one_of([4, 20, 100, 100, 100])
    begin = fleet(*[numbers.below(span) for each in range(3)])
    begin += requests(*[numbers.below(span) for each in range(8)])
    return begin + [a_question(numbers) for each in range(28)]


class LongLists(unittest.TestCase):
    def test_against_the_second_way(self):
        for seed in range(12):
            calls = flat(a_long_list(seed))
            self.assertEqual(answers(calls), model_answers(calls), calls)

    def test_the_same_question_again_is_answered_alike(self):
        for seed in range(300):
            calls = a_long_list(seed)
            told = ask(calls)
            known = {}
            for call, answer in zip(calls[12:], told[12:]):
                self.assertEqual(known.setdefault(tuple(call), answer), answer, calls)

    def test_one_question_28_times(self):
        numbers = Numbers(40)
        for call in (OPTIMAL, PLAN, BOUND, EXCESS, optimal_with(55), without(3), without(0)):
            calls = fleet(20, 50, 80) + requests(*[numbers.below(100) for each in range(8)])
            told = ask(calls + [call] * 28)
            self.assertEqual(told[12:], [ask(calls + [call])[-1]] * 28)

    def test_one_more_icebreaker_28_times(self):
        numbers = Numbers(41)
        targets = [numbers.below(100) for each in range(8)]
        calls = flat(fleet(20, 50) + requests(*targets) + [with_icebreaker(7 * each % 100) for each in range(29)])
        self.assertEqual(answers(calls), model_answers(calls))

    def test_requests_undone_and_made_again(self):
        calls = fleet(20, 50, 80) + requests(1, 99, 2, 98, 49, 51, 3, 97)
        calls += [[5], [4, 96], PLAN, [5], [4, 50], EXCESS] * 3 + LOOKS + [PLAN, OPTIMAL, BOUND, EXCESS, without(7)]
        self.assertEqual(len(calls), 40)
        self.assertEqual(answers(flat(calls)), model_answers(flat(calls)))


if __name__ == "__main__":
    unittest.main()
