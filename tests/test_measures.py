"""spread, distances_per_request and summary, none of which refuses an instance."""

import unittest

from asking import CLEAR, CREATE, EACH, SPREAD, SUMMARY, TOTAL, UNDO, ask, fleet, last, remove, request, requests

EIGHT = (5, 90, 40, 41, 0, 99, 60, 20)


class Spread(unittest.TestCase):
    def test_the_starts_stand_ahead_of_the_current_positions(self):
        calls = fleet(10, 30) + [SPREAD] + requests(18) + [SPREAD] + requests(40) + [SPREAD]
        self.assertEqual(last(calls, 5)[0::2], [[20, 20], [20, 4], [20, 22]])

    def test_all_pairs_of_three(self):
        self.assertEqual(last(fleet(10, 30, 50) + [SPREAD]), [[80, 80]])
        self.assertEqual(last(fleet(50, 10, 30) + [SPREAD]), [[80, 80]])
        self.assertEqual(last(fleet(0, 99, 0) + [SPREAD]), [[198, 198]])
        self.assertEqual(last(fleet(10, 11, 99) + [SPREAD]), [[1 + 88 + 89] * 2])

    def test_at_one_position(self):
        self.assertEqual(last(fleet(7, 7, 7) + [SPREAD]), [[0, 0]])
        self.assertEqual(last(fleet(10, 30) + requests(20) + [SPREAD]), [[20, 0]])

    def test_of_one_icebreaker_and_of_none(self):
        self.assertEqual(last(fleet(50) + requests(5) + [SPREAD]), [[0, 0]])
        self.assertEqual(ask([CREATE, SPREAD]), [[0], [0, 0]])


class EachRequest(unittest.TestCase):
    def test_in_order_of_arrival(self):
        self.assertEqual(last(fleet(10, 30) + requests(18, 40) + [EACH]), [[2, 16, 18]])

    def test_a_request_where_one_is_already_counts_with_nothing(self):
        self.assertEqual(last(fleet(10, 30) + requests(10, 30, 20, 20) + [EACH]), [[4, 0, 0, 20, 0]])

    def test_they_are_what_the_requests_answered(self):
        for count in range(9):
            calls = fleet(10, 30, 50) + requests(*EIGHT[:count])
            told = ask(calls + [EACH, TOTAL])
            ways = [answer[0] for answer in told[4:-2]]
            self.assertEqual(told[-2:], [[count] + ways, [sum(ways)]])

    def test_behind_an_undone_request(self):
        self.assertEqual(last(fleet(10, 30) + requests(18, 40) + [UNDO, EACH, CLEAR, EACH], 3), [[1, 16], [1], [0]])

    def test_without_requests_and_without_icebreakers(self):
        self.assertEqual(last(fleet(10, 30) + [EACH]), [[0]])
        self.assertEqual(ask([CREATE, EACH]), [[0], [0]])


class Summary(unittest.TestCase):
    def test_icebreakers_requests_and_distance(self):
        self.assertEqual(last(fleet(10, 30) + requests(18, 40) + [SUMMARY]), [[2, 2, 34]])
        self.assertEqual(last(fleet(50) + requests(*EIGHT[:3]) + [SUMMARY]), [[1, 3, 180]])

    def test_up_to_the_limits(self):
        told = last(fleet(10, 30, 50) + requests(*EIGHT) + [request(7), TOTAL, SUMMARY], 3)
        self.assertEqual(told, [[-28], told[1], [3, 8] + told[1]])

    def test_it_follows_what_the_instance_becomes(self):
        calls = fleet(10, 30) + requests(18, 40) + [UNDO, SUMMARY, CLEAR, SUMMARY, remove(0), SUMMARY]
        self.assertEqual(last(calls, 5)[0::2], [[2, 1, 16], [2, 0, 0], [1, 0, 0]])

    def test_without_icebreakers(self):
        self.assertEqual(ask([CREATE, SUMMARY]), [[0], [0, 0, 0]])


if __name__ == "__main__":
    unittest.main()
