"""A call that is refused, and one that only asks, leaves the instance unchanged."""

import unittest

from asking import BIGGEST, BOUND, CLEAR, CREATE, CURRENT, EACH, EXCESS, GREEDY, GREEDY_POSITIONS, LIST, LOOKS
from asking import OPTIMAL, PLAN, SPREAD, STARTS, SUMMARY, TOTAL, UNDO
from asking import add, ask, fleet, last, move_start, optimal_with, preview, remove, request, requests
from asking import responders, with_icebreaker, without

EIGHT = (5, 90, 40, 41, 0, 99, 60, 20)

# Instances, and of each the calls that it refuses with the codes.
REFUSALS = [
    (fleet(), [
        (add(100), -22), (remove(0), -2), (remove(BIGGEST), -2), (move_start(0, 5), -2),
        (request(5), -6), (request(100), -22), (UNDO, -6), (GREEDY, -6), (GREEDY_POSITIONS, -6),
        (OPTIMAL, -6), (PLAN, -6), (BOUND, -6), (EXCESS, -6), (preview(5), -6), (preview(100), -22),
        (optimal_with(5), -6), (optimal_with(100), -22), (responders(5), -6), (responders(100), -22),
        (without(0), -2), (without(BIGGEST), -2), (with_icebreaker(100), -22),
    ]),
    (fleet(10, 30), [
        (add(100), -22), (remove(2), -2), (move_start(2, 5), -2), (move_start(0, 100), -22),
        (move_start(2, 100), -2), (request(BIGGEST), -22), (UNDO, -6), (preview(BIGGEST), -22),
        (optimal_with(100), -22), (responders(100), -22), (without(0), -2), (with_icebreaker(BIGGEST), -22),
    ]),
    (fleet(10, 30) + requests(18, 40), [
        (add(100), -22), (add(BIGGEST), -22), (remove(2), -2), (remove(BIGGEST), -2),
        (move_start(2, 5), -2), (move_start(BIGGEST, BIGGEST), -2), (move_start(1, 100), -22),
        (request(100), -22), (preview(100), -22), (optimal_with(BIGGEST), -22), (responders(BIGGEST), -22),
        (without(2), -2), (without(BIGGEST), -2), (with_icebreaker(100), -22),
    ]),
    (fleet(10, 30, 50) + requests(*EIGHT), [
        (add(20), -28), (add(100), -22), (remove(3), -2), (move_start(3, 5), -2),
        (move_start(2, 100), -22), (request(7), -28), (request(20), -28), (request(100), -22),
        (preview(100), -22), (optimal_with(100), -22), (responders(100), -22), (without(8), -2),
        (with_icebreaker(20), -28), (with_icebreaker(100), -22),
    ]),
]

# Every call that only asks, with parameters that are taken and such that are refused.
QUESTIONS = [LIST, CURRENT, STARTS, TOTAL, GREEDY, GREEDY_POSITIONS, OPTIMAL, PLAN, BOUND, SPREAD, EXCESS]
QUESTIONS += [EACH, SUMMARY]
QUESTIONS += [call(number) for call in (preview, optimal_with, responders, without, with_icebreaker)
              for number in (0, 1, 45, 99, 100)]


class Refusals(unittest.TestCase):
    def test_each_refusal_is_its_code_alone(self):
        for calls, refused in REFUSALS:
            for call, code in refused:
                self.assertEqual(last(calls + [call]), [[code]], (calls, call))

    def test_each_refusal_leaves_the_instance_unchanged(self):
        for calls, refused in REFUSALS:
            for call, code in refused:
                told = last(calls + LOOKS + [call] + LOOKS, 11)
                self.assertEqual(told[5], [code])
                self.assertEqual(told[6:], told[:5], (calls, call))

    def test_what_comes_after_a_refusal_is_as_without_it(self):
        after = requests(25) + [UNDO, CLEAR] + requests(12) + [add(7), remove(0)] + LOOKS
        for calls, refused in REFUSALS:
            for call, code in refused:
                self.assertEqual(last(calls + [call] + after, 11), last(calls + after, 11), (calls, call))

    def test_all_refusals_one_behind_another(self):
        for calls, refused in REFUSALS:
            told = last(calls + [call for call, code in refused] + LOOKS, len(refused) + 5)
            self.assertEqual(told[:-5], [[code] for call, code in refused])
            self.assertEqual(told[-5:], last(calls + LOOKS, 5))

    def test_create_is_never_refused(self):
        self.assertEqual(ask([CREATE, CREATE, CREATE]), [[0]] * 3)


class Questions(unittest.TestCase):
    def test_each_question_leaves_the_instance_unchanged(self):
        for calls, refused in REFUSALS:
            for call in QUESTIONS:
                told = last(calls + LOOKS + [call] + LOOKS, 11)
                self.assertEqual(told[6:], told[:5], (calls, call))

    def test_what_comes_after_a_question_is_as_without_it(self):
        after = requests(25) + [UNDO, UNDO] + requests(12) + [PLAN, CLEAR, add(7), remove(0)] + LOOKS
        for calls, refused in REFUSALS:
            for call in QUESTIONS:
                self.assertEqual(last(calls + [call] + after, 13), last(calls + after, 13), (calls, call))

    def test_each_question_asked_twice_is_answered_twice_alike(self):
        for calls, refused in REFUSALS:
            for call in QUESTIONS:
                told = last(calls + [call, call], 2)
                self.assertEqual(told[0], told[1], (calls, call))

    def test_all_questions_one_behind_another(self):
        for calls, refused in REFUSALS:
            for begin in range(0, len(QUESTIONS), 15):
                some = QUESTIONS[begin:begin + 15]
                told = last(calls + some + LOOKS, len(some) + 5)
                self.assertEqual(told[-5:], last(calls + LOOKS, 5))
                self.assertEqual(told[:-5], [last(calls + [call])[0] for call in some])


if __name__ == "__main__":
    unittest.main()
