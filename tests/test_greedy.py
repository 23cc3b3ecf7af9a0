"""greedy_distance and greedy_positions."""

import unittest

from asking import CREATE, CURRENT, GREEDY, GREEDY_POSITIONS, ask, fleet, last, requests


def rushed(starts, targets):
    return last(fleet(*starts) + requests(*targets) + [GREEDY, GREEDY_POSITIONS], 2)


class Greedy(unittest.TestCase):
    def test_the_nearest_moves(self):
        self.assertEqual(rushed([10, 30], [18]), [[8], [2, 18, 30]])
        self.assertEqual(rushed([10, 30], [22]), [[8], [2, 10, 22]])
        self.assertEqual(rushed([10, 30, 50], [41]), [[9], [3, 10, 30, 41]])
        self.assertEqual(rushed([10, 30], [0]), [[10], [2, 0, 30]])
        self.assertEqual(rushed([10, 30], [99]), [[69], [2, 10, 99]])

    def test_one_at_the_target_stays(self):
        self.assertEqual(rushed([10, 30], [30]), [[0], [2, 10, 30]])

    def test_ties_go_to_the_smaller_number(self):
        self.assertEqual(rushed([10, 30], [20]), [[10], [2, 20, 30]])
        self.assertEqual(rushed([30, 10], [20]), [[10], [2, 20, 10]])
        self.assertEqual(rushed([50, 30, 10], [20]), [[10], [3, 50, 20, 10]])
        self.assertEqual(rushed([10, 10, 10], [11]), [[1], [3, 11, 10, 10]])

    def test_runs(self):
        self.assertEqual(rushed([10, 30], [18, 40, 20, 29, 0, 99]), [[8 + 10 + 2 + 9 + 29 + 59], [2, 0, 99]])
        self.assertEqual(rushed([0, 20], [12, 20, 12, 20]), [[32], [2, 0, 20]])

    def test_it_is_simulated_apart_from_double_coverage(self):
        # Double coverage brings the icebreakers past one another here; greedy sends the first one alone.
        calls = fleet(10, 30) + requests(20, 25, 22) + [CURRENT, GREEDY, GREEDY_POSITIONS]
        self.assertEqual(last(calls, 3), [[2, 23, 22], [18], [2, 22, 30]])

    def test_it_begins_from_the_start_positions(self):
        calls = fleet(0, 40) + requests(18) + [CURRENT, GREEDY, GREEDY_POSITIONS]
        self.assertEqual(last(calls, 3), [[2, 18, 22], [18], [2, 18, 40]])

    def test_without_requests(self):
        self.assertEqual(rushed([30, 10], []), [[0], [2, 30, 10]])

    def test_without_icebreakers(self):
        self.assertEqual(ask([CREATE, GREEDY, GREEDY_POSITIONS]), [[0], [-6], [-6]])


if __name__ == "__main__":
    unittest.main()
