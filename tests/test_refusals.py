"""A call that is refused leaves the instance unchanged."""

import unittest

from asking import BIGGEST, CLEAR, CREATE, GREEDY, GREEDY_POSITIONS, LOOKS, UNDO
from asking import add, ask, fleet, last, move_start, remove, request, requests

EIGHT = (5, 90, 40, 41, 0, 99, 60, 20)

# Instances, and of each the calls that it refuses with the codes.
REFUSALS = [
    (fleet(), [
        (add(100), -22), (remove(0), -2), (remove(BIGGEST), -2), (move_start(0, 5), -2),
        (request(5), -6), (request(100), -22), (UNDO, -6), (GREEDY, -6), (GREEDY_POSITIONS, -6),
    ]),
    (fleet(10, 30), [
        (add(100), -22), (remove(2), -2), (move_start(2, 5), -2), (move_start(0, 100), -22),
        (move_start(2, 100), -2), (request(BIGGEST), -22), (UNDO, -6),
    ]),
    (fleet(10, 30) + requests(18, 40), [
        (add(100), -22), (add(BIGGEST), -22), (remove(2), -2), (remove(BIGGEST), -2),
        (move_start(2, 5), -2), (move_start(BIGGEST, BIGGEST), -2), (move_start(1, 100), -22),
        (request(100), -22),
    ]),
    (fleet(10, 30, 50) + requests(*EIGHT), [
        (add(20), -28), (add(100), -22), (remove(3), -2), (move_start(3, 5), -2),
        (move_start(2, 100), -22), (request(7), -28), (request(20), -28), (request(100), -22),
    ]),
]


class Refusals(unittest.TestCase):
    def test_each_refusal_is_its_code_alone(self):
        for calls, refused in REFUSALS:
            for call, code in refused:
                self.assertEqual(last(calls + [call]), [[code]], (calls, call))

    def test_each_refusal_leaves_the_instance_unchanged(self):
        for calls, refused in REFUSALS:
            for call, code in refused:
                told = last(calls + LOOKS + [call] + LOOKS, 11)
                self.assertEqual(told[5], [code])
                self.assertEqual(told[6:], told[:5], (calls, call))

    def test_what_comes_after_a_refusal_is_as_without_it(self):
        after = requests(25) + [UNDO, CLEAR] + requests(12) + [add(7), remove(0)] + LOOKS
        for calls, refused in REFUSALS:
            for call, code in refused:
                self.assertEqual(last(calls + [call] + after, 11), last(calls + after, 11), (calls, call))

    def test_all_refusals_one_behind_another(self):
        for calls, refused in REFUSALS:
            told = last(calls + [call for call, code in refused] + LOOKS, len(refused) + 5)
            self.assertEqual(told[:-5], [[code] for call, code in refused])
            self.assertEqual(told[-5:], last(calls + LOOKS, 5))

    def test_calls_that_only_look_change_nothing(self):
        for calls, refused in REFUSALS:
            told = last(calls + LOOKS + [GREEDY] + LOOKS + [GREEDY], 12)
            self.assertEqual(told[6:], told[:6])

    def test_create_is_never_refused(self):
        self.assertEqual(ask([CREATE, CREATE, CREATE]), [[0]] * 3)


if __name__ == "__main__":
    unittest.main()
