"""add_icebreaker, remove_icebreaker, set_start and start_positions."""

import unittest

from asking import BIGGEST, CURRENT, GREEDY_POSITIONS, LIST, STARTS, TOTAL
from asking import add, ask, fleet, last, move_start, remove, request, requests


class Add(unittest.TestCase):
    def test_answers_the_number_of_the_new_one(self):
        self.assertEqual(ask(fleet(50, 20, 70)), [[0], [0], [1], [2]])

    def test_start_positions_are_in_the_order_of_their_numbers(self):
        self.assertEqual(last(fleet(50, 20, 70) + [STARTS]), [[3, 50, 20, 70]])

    def test_both_ends_of_the_coast(self):
        self.assertEqual(last(fleet(0, 99) + [STARTS]), [[2, 0, 99]])

    def test_off_the_coast(self):
        for position in (100, 101, BIGGEST):
            self.assertEqual(last(fleet(5) + [add(position), STARTS], 2), [[-22], [1, 5]], position)

    def test_a_fourth_is_refused(self):
        self.assertEqual(last(fleet(1, 2, 3) + [add(4), STARTS], 2), [[-28], [3, 1, 2, 3]])

    def test_a_fourth_off_the_coast_is_off_the_coast(self):
        self.assertEqual(last(fleet(1, 2, 3) + [add(100), add(BIGGEST)], 2), [[-22], [-22]])

    def test_several_may_start_at_one_position(self):
        self.assertEqual(last(fleet(5, 5, 5) + [STARTS]), [[3, 5, 5, 5]])

    def test_discards_all_requests(self):
        calls = fleet(10, 30) + requests(18, 40) + [add(60), LIST, CURRENT, TOTAL, GREEDY_POSITIONS]
        self.assertEqual(last(calls, 5), [[2], [0], [3, 10, 30, 60], [0], [3, 10, 30, 60]])

    def test_what_follows_removal_takes_the_next_number(self):
        calls = fleet(1, 2, 3) + [remove(0), add(4), STARTS]
        self.assertEqual(last(calls, 2), [[2], [3, 2, 3, 4]])


class Remove(unittest.TestCase):
    def test_answers_how_many_remain(self):
        calls = fleet(1, 2, 3) + [remove(0), remove(0), remove(0)]
        self.assertEqual(last(calls, 3), [[2], [1], [0]])

    def test_renumbers_those_behind(self):
        for gone, left in ((0, [2, 20, 30]), (1, [2, 10, 30]), (2, [2, 10, 20])):
            self.assertEqual(last(fleet(10, 20, 30) + [remove(gone), STARTS]), [left], gone)

    def test_there_is_no_such_icebreaker(self):
        for count in range(4):
            calls = fleet(*[10, 20, 30][:count])
            for icebreaker in (count, count + 1, BIGGEST):
                told = last(calls + [remove(icebreaker), STARTS], 2)
                self.assertEqual(told, [[-2], [count] + [10, 20, 30][:count]], (count, icebreaker))

    def test_the_last_number_is_gone_afterwards(self):
        self.assertEqual(last(fleet(1, 2) + [remove(1), remove(1), remove(0), remove(0)], 4),
                         [[1], [-2], [0], [-2]])

    def test_discards_all_requests(self):
        calls = fleet(10, 30, 50) + requests(18, 40) + [remove(1), LIST, CURRENT, TOTAL, GREEDY_POSITIONS]
        self.assertEqual(last(calls, 5), [[2], [0], [2, 10, 50], [0], [2, 10, 50]])

    def test_without_the_last_icebreaker_there_are_no_requests(self):
        calls = fleet(10) + requests(18) + [remove(0), LIST, CURRENT, TOTAL, GREEDY_POSITIONS, request(3)]
        self.assertEqual(last(calls, 6), [[0], [0], [0], [0], [-6], [-6]])


class SetStart(unittest.TestCase):
    def test_answers_the_previous_start(self):
        calls = fleet(10, 20) + [move_start(1, 99), move_start(1, 0), move_start(0, 5), STARTS]
        self.assertEqual(last(calls, 4), [[20], [99], [10], [2, 5, 0]])

    def test_answers_the_start_and_not_the_current_position(self):
        self.assertEqual(last(fleet(10) + [request(40), move_start(0, 7)]), [[10]])

    def test_there_is_no_such_icebreaker(self):
        for count in range(4):
            calls = fleet(*[10, 20, 30][:count])
            for icebreaker in (count, count + 1, BIGGEST):
                told = last(calls + [move_start(icebreaker, 5), STARTS], 2)
                self.assertEqual(told, [[-2], [count] + [10, 20, 30][:count]], (count, icebreaker))

    def test_off_the_coast(self):
        for position in (100, BIGGEST):
            self.assertEqual(last(fleet(10) + [move_start(0, position), STARTS], 2), [[-22], [1, 10]])

    def test_the_icebreaker_is_checked_ahead_of_the_position(self):
        for position in (100, BIGGEST):
            self.assertEqual(last(fleet(10) + [move_start(1, position)]), [[-2]])

    def test_discards_all_requests(self):
        calls = fleet(10, 30) + requests(18, 40) + [move_start(0, 12), LIST, CURRENT, TOTAL, GREEDY_POSITIONS]
        self.assertEqual(last(calls, 5), [[10], [0], [2, 12, 30], [0], [2, 12, 30]])

    def test_the_same_position_again_discards_all_requests_too(self):
        calls = fleet(10, 30) + requests(18, 40) + [move_start(0, 10), LIST, CURRENT]
        self.assertEqual(last(calls, 3), [[10], [0], [2, 10, 30]])


if __name__ == "__main__":
    unittest.main()
