"""Double coverage: what request, current_positions and total_distance answer."""

import itertools
import unittest

from asking import CREATE, CURRENT, TOTAL, ask, fleet, last, request, requests


def served(starts, target):
    return last(fleet(*starts) + [request(target)])[0]


class OneRequest(unittest.TestCase):
    def test_with_an_icebreaker_at_the_target_nobody_moves(self):
        self.assertEqual(served([10, 30], 10), [0, 10, 30])
        self.assertEqual(served([10, 20, 30], 20), [0, 10, 20, 30])
        self.assertEqual(served([0, 99], 99), [0, 0, 99])

    def test_both_sides_at_unequal_distances(self):
        self.assertEqual(served([10, 30], 18), [16, 18, 22])
        self.assertEqual(served([10, 30], 25), [10, 15, 25])
        self.assertEqual(served([30, 10], 18), [16, 22, 18])

    def test_both_sides_at_equal_distances(self):
        self.assertEqual(served([10, 30], 20), [20, 20, 20])
        self.assertEqual(served([30, 10], 20), [20, 20, 20])

    def test_outside_all_icebreakers(self):
        self.assertEqual(served([10, 30], 40), [10, 10, 40])
        self.assertEqual(served([10, 30], 4), [6, 4, 30])
        self.assertEqual(served([30, 10], 99), [69, 99, 10])
        self.assertEqual(served([30, 10], 0), [10, 30, 0])

    def test_one_icebreaker_goes_to_every_target(self):
        self.assertEqual(served([50], 0), [50, 0])
        self.assertEqual(served([50], 99), [49, 99])
        self.assertEqual(served([50], 50), [0, 50])

    def test_the_neighbours_of_the_target_move_and_no_other(self):
        self.assertEqual(served([10, 20, 40], 25), [10, 10, 25, 35])
        self.assertEqual(served([40, 10, 20], 25), [10, 35, 10, 25])
        self.assertEqual(served([10, 20, 40], 12), [4, 12, 18, 40])
        self.assertEqual(served([10, 20, 40], 45), [5, 10, 20, 45])
        self.assertEqual(served([10, 20, 40], 5), [5, 5, 20, 40])

    def test_ties_on_the_left_go_to_the_smaller_number(self):
        self.assertEqual(served([10, 10], 15), [5, 15, 10])
        self.assertEqual(served([10, 10, 20], 12), [4, 12, 10, 18])
        self.assertEqual(served([20, 10, 10], 12), [4, 18, 12, 10])

    def test_ties_on_the_right_go_to_the_smaller_number(self):
        self.assertEqual(served([10, 10], 5), [5, 5, 10])
        self.assertEqual(served([20, 20, 10], 12), [4, 18, 20, 12])
        self.assertEqual(served([10, 20, 20], 12), [4, 12, 18, 20])

    def test_three_at_one_position(self):
        self.assertEqual(served([10, 10, 10], 11), [1, 11, 10, 10])
        self.assertEqual(served([10, 10, 10], 9), [1, 9, 10, 10])
        self.assertEqual(served([10, 10, 10], 10), [0, 10, 10, 10])


class Runs(unittest.TestCase):
    def test_each_request_begins_where_the_last_one_ended(self):
        calls = fleet(10, 30) + requests(18, 40, 20, 29, 0, 99) + [CURRENT, TOTAL]
        self.assertEqual(last(calls, 8), [
            [16, 18, 22],
            [18, 18, 40],
            [4, 20, 38],
            [18, 29, 29],
            [29, 0, 29],
            [70, 0, 99],
            [2, 0, 99],
            [155],
        ])

    def test_three_icebreakers(self):
        calls = fleet(50, 0, 50) + requests(49, 60, 1, 1, 55) + [CURRENT, TOTAL]
        self.assertEqual(last(calls, 7), [
            [2, 49, 1, 50],
            [10, 49, 1, 60],
            [0, 49, 1, 60],
            [0, 49, 1, 60],
            [10, 54, 1, 55],
            [3, 54, 1, 55],
            [22],
        ])

    def test_icebreakers_that_met_part_by_their_numbers(self):
        self.assertEqual(last(fleet(30, 10) + requests(20, 25, 15), 3), [[20, 20, 20], [5, 25, 20], [5, 25, 15]])

    def test_two_places_asked_for_in_turn(self):
        calls = fleet(0, 20) + requests(12, 20, 12, 20) + [TOTAL]
        self.assertEqual(last(calls, 5), [[16, 8, 12], [8, 8, 20], [8, 12, 16], [4, 12, 20], [36]])

    def test_without_requests(self):
        self.assertEqual(last(fleet(30, 10) + [CURRENT, TOTAL], 2), [[2, 30, 10], [0]])
        self.assertEqual(ask([CREATE, CURRENT, TOTAL]), [[0], [0], [0]])


class Service(unittest.TestCase):
    def check_run(self, starts, targets):
        calls = fleet(*starts) + [call for target in targets for call in (request(target), CURRENT, TOTAL)]
        told = ask(calls)[len(starts) + 1:]
        before, total = list(starts), 0
        for place, target in enumerate(targets):
            moved, after = told[3 * place][0], told[3 * place][1:]
            ways = [abs(new - old) for old, new in zip(before, after) if new != old]
            self.assertIn(target, after, (starts, targets))
            self.assertLessEqual(len(ways), 2, (starts, targets))
            self.assertLessEqual(len(set(ways)), 1, (starts, targets))
            self.assertEqual(moved, sum(ways), (starts, targets))
            self.assertEqual(told[3 * place + 1], [len(after)] + after)
            total += moved
            self.assertEqual(told[3 * place + 2], [total])
            before = after

    def test_service_on_every_short_run_on_a_short_coast(self):
        for count in (1, 2, 3):
            for starts in itertools.product(range(0, 99, 24), repeat=count):
                for targets in itertools.product(range(0, 100, 11), repeat=2):
                    self.check_run(starts, targets)

    def test_service_on_long_runs(self):
        for step in range(1, 99):
            targets = [(17 * step + step * step * place) % 100 for place in range(8)]
            self.check_run([step, (7 * step) % 100, (31 * step) % 100], targets)


if __name__ == "__main__":
    unittest.main()
