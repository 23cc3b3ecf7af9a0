"""request, undo_request, clear_requests and list_requests."""

import unittest

from asking import BIGGEST, CLEAR, CREATE, CURRENT, GREEDY, GREEDY_POSITIONS, LIST, STARTS, TOTAL, UNDO
from asking import ask, fleet, last, request, requests

EIGHT = (5, 90, 40, 41, 0, 99, 60, 20)
FOLLOWING = [LIST, CURRENT, TOTAL, GREEDY, GREEDY_POSITIONS, STARTS]


class Request(unittest.TestCase):
    def test_off_the_coast(self):
        for target in (100, BIGGEST):
            self.assertEqual(last(fleet(5) + [request(target), LIST], 2), [[-22], [0]])

    def test_both_ends_of_the_coast(self):
        self.assertEqual(last(fleet(5) + [request(0), request(99), LIST], 3), [[5, 0], [99, 99], [2, 0, 99]])

    def test_without_icebreakers(self):
        self.assertEqual(ask([CREATE, request(5), LIST]), [[0], [-6], [0]])

    def test_a_target_off_the_coast_goes_ahead_of_no_icebreakers(self):
        self.assertEqual(ask([CREATE, request(100), request(BIGGEST)]), [[0], [-22], [-22]])

    def test_the_eighth_is_taken_and_the_ninth_refused(self):
        calls = fleet(50) + requests(*EIGHT) + [request(30), LIST, CURRENT]
        self.assertEqual(last(calls, 4), [[40, 20], [-28], [8] + list(EIGHT), [1, 20]])

    def test_a_ninth_where_an_icebreaker_is_already_is_refused_too(self):
        self.assertEqual(last(fleet(50) + requests(*EIGHT) + [request(20)]), [[-28]])

    def test_a_ninth_off_the_coast_is_off_the_coast(self):
        self.assertEqual(last(fleet(50) + requests(*EIGHT) + [request(100)]), [[-22]])

    def test_a_position_may_be_requested_again(self):
        self.assertEqual(last(fleet(50) + [request(20), request(20), LIST], 3), [[30, 20], [0, 20], [2, 20, 20]])


class Undo(unittest.TestCase):
    def test_answers_the_last_position(self):
        self.assertEqual(last(fleet(50) + requests(20, 30) + [UNDO, UNDO, UNDO], 3), [[30], [20], [-6]])

    def test_without_requests(self):
        self.assertEqual(ask([CREATE, UNDO, CLEAR]), [[0], [-6], [0]])
        self.assertEqual(last(fleet(50) + [UNDO, STARTS], 2), [[-6], [1, 50]])

    def test_it_is_as_if_the_last_request_had_not_been(self):
        for count in range(8):
            kept = fleet(50, 20, 70) + requests(*EIGHT[:count])
            undone = fleet(50, 20, 70) + requests(*EIGHT[:count + 1]) + [UNDO]
            self.assertEqual(last(undone + FOLLOWING, 6), last(kept + FOLLOWING, 6), count)

    def test_one_undone_of_eight_makes_room(self):
        calls = fleet(50) + requests(*EIGHT) + [UNDO, request(61), request(62), LIST]
        self.assertEqual(last(calls, 4), [[20], [1, 61], [-28], [8] + list(EIGHT[:7]) + [61]])


class Clear(unittest.TestCase):
    def test_answers_how_many_there_were(self):
        for count in range(9):
            calls = fleet(50) + requests(*EIGHT[:count]) + [CLEAR, CLEAR, LIST]
            self.assertEqual(last(calls, 3), [[count], [0], [0]])

    def test_the_icebreakers_are_at_their_starts_again(self):
        calls = fleet(10, 30) + requests(18, 40) + [CLEAR] + FOLLOWING
        self.assertEqual(last(calls, 6), [[0], [2, 10, 30], [0], [0], [2, 10, 30], [2, 10, 30]])

    def test_requests_after_it_begin_from_the_starts(self):
        calls = fleet(10, 30) + requests(18, 40) + [CLEAR, request(18), LIST]
        self.assertEqual(last(calls, 2), [[16, 18, 22], [1, 18]])


class Listing(unittest.TestCase):
    def test_no_requests(self):
        self.assertEqual(last(fleet(3) + [LIST]), [[0]])

    def test_in_order_of_arrival(self):
        for count in range(9):
            calls = fleet(50, 20) + requests(*EIGHT[:count]) + [LIST]
            self.assertEqual(last(calls), [[count] + list(EIGHT[:count])])


if __name__ == "__main__":
    unittest.main()
