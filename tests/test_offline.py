"""optimal_distance, optimal_plan, competitive_bound and excess."""

import itertools
import unittest

from asking import BOUND, CLEAR, CREATE, EXCESS, OPTIMAL, PLAN, UNDO, ask, fleet, last, move_start, requests
from numbers_of_a_seed import Numbers
from plain_model import best_of_all, plan_distance

# Runs, each with its optimal distance and its optimal plan.
RUNS = [
    ([10, 30], [18, 40], 18, [0, 1]),
    ([10, 30], [], 0, []),
    ([10, 30], [30, 10, 30, 10], 0, [1, 0, 1, 0]),
    ([0, 20], [12, 20, 12, 20], 12, [0, 1, 0, 1]),
    ([0, 10], [5, 0], 5, [1, 0]),
    ([0, 10], [5, 10], 5, [0, 1]),
    ([50], [0, 99, 50, 50], 198, [0, 0, 0, 0]),
    ([0, 50, 99], [1, 98, 49, 0, 99, 50], 6, [0, 2, 1, 0, 2, 1]),
    ([0, 0, 99], [50, 0, 50, 99], 50, [0, 1, 0, 2]),
]

# Runs with more than one plan of the optimal distance, each with the smallest one.
TIES = [
    ([10, 30], [20], [0]),
    ([30, 10], [20], [0]),
    ([10, 10], [10], [0]),
    ([10, 10, 10], [10, 10, 10], [0, 0, 0]),
    ([10, 10, 10], [11, 9, 11, 9], [0, 1, 0, 1]),
    ([10, 10], [5, 15, 10], [0, 0, 1]),
    ([20, 0, 40], [10, 30], [0, 2]),
    ([40, 0, 20], [10, 30], [1, 0]),
    ([40, 20, 0], [10, 30], [1, 0]),
    ([0, 20], [10, 0, 20], [0, 0, 1]),
    ([0, 10], [5, 5, 5], [0, 0, 0]),
    ([30, 10], [20, 20, 20], [0, 0, 0]),
]


class Runs(unittest.TestCase):
    def test_optimal_distances(self):
        for starts, targets, distance, plan in RUNS:
            told = last(fleet(*starts) + requests(*targets) + [OPTIMAL, PLAN], 2)
            self.assertEqual(told, [[distance], [len(plan)] + plan], (starts, targets))

    def test_the_smallest_of_the_optimal_plans(self):
        for starts, targets, plan in TIES:
            told = last(fleet(*starts) + requests(*targets) + [PLAN])
            self.assertEqual(told, [[len(plan)] + plan], (starts, targets))

    def test_a_plan_may_send_another_one_than_the_one_at_the_target(self):
        # 1 is at 20 already, but one has to go on to 30, and 0 passes 20 on its way there at no loss.
        calls = fleet(10, 20) + requests(20, 30, 20) + [OPTIMAL, PLAN]
        self.assertEqual(last(calls, 2), [[20], [3, 0, 0, 1]])

    def test_the_first_choice_is_paid_for_later(self):
        # The nearest one to 45 is 1, but the plan that keeps it for 55 is shorter.
        calls = fleet(30, 55) + requests(45, 55, 45, 55) + [OPTIMAL, PLAN]
        self.assertEqual(last(calls, 2), [[15], [4, 0, 1, 0, 1]])

    def test_without_icebreakers(self):
        self.assertEqual(ask([CREATE, OPTIMAL, PLAN, BOUND, EXCESS]), [[0], [-6], [-6], [-6], [-6]])

    def test_they_follow_what_the_instance_becomes(self):
        calls = fleet(10, 30) + requests(18, 40) + [OPTIMAL, UNDO, OPTIMAL, CLEAR, OPTIMAL, PLAN]
        self.assertEqual(last(calls, 6), [[18], [40], [8], [1], [0], [0]])
        calls = fleet(10, 30) + [move_start(0, 18)] + requests(18, 40) + [OPTIMAL, PLAN]
        self.assertEqual(last(calls, 2), [[10], [2, 0, 1]])

    def test_the_plan_begins_at_the_starts_and_not_at_the_current_positions(self):
        # Double coverage has both at 20 behind the first request.
        self.assertEqual(last(fleet(10, 30) + requests(20, 30) + [OPTIMAL, PLAN], 2), [[10], [2, 0, 1]])


class Bound(unittest.TestCase):
    def test_the_example(self):
        self.assertEqual(last(fleet(10, 30) + requests(18, 40) + [BOUND]), [[56]])

    def test_without_requests_it_is_the_spread_of_the_starts(self):
        self.assertEqual(last(fleet(10, 30, 50) + [BOUND]), [[80]])
        self.assertEqual(last(fleet(50, 10, 30) + [BOUND]), [[80]])
        self.assertEqual(last(fleet(7, 7, 7) + [BOUND]), [[0]])

    def test_of_one_icebreaker_it_is_the_optimal_distance(self):
        self.assertEqual(last(fleet(10) + requests(20, 0) + [BOUND]), [[30]])

    def test_of_three_icebreakers(self):
        self.assertEqual(last(fleet(0, 50, 99) + requests(1, 98, 49, 0, 99, 50) + [BOUND]), [[3 * 6 + 198]])

    def test_the_spread_is_that_of_the_starts(self):
        # Double coverage has both at one position behind the request.
        self.assertEqual(last(fleet(10, 30) + requests(20) + [BOUND]), [[2 * 10 + 20]])


class Excess(unittest.TestCase):
    def test_double_coverage_stands_ahead_of_greedy(self):
        self.assertEqual(last(fleet(0, 20) + requests(12, 20, 12, 20) + [EXCESS]), [[36 - 12, 32 - 12]])
        self.assertEqual(last(fleet(10, 30) + requests(18, 40) + [EXCESS]), [[16, 0]])

    def test_of_one_icebreaker_there_is_none(self):
        self.assertEqual(last(fleet(10) + requests(20, 0, 99) + [EXCESS]), [[0, 0]])

    def test_without_requests(self):
        self.assertEqual(last(fleet(10, 30, 50) + [EXCESS]), [[0, 0]])


class AllPlans(unittest.TestCase):
    """Against all offline plans, written out one by one."""

    def check(self, starts, targets):
        told = last(fleet(*starts) + requests(*targets) + [OPTIMAL, PLAN], 2)
        distance, plan = best_of_all(tuple(starts), tuple(targets))
        self.assertEqual(told, [[distance], [len(plan)] + list(plan)], (starts, targets))

    def test_all_plans_are_written_out(self):
        # The second way itself: as many plans as there are, in lexicographic order.
        plans = list(itertools.product(range(2), repeat=2))
        self.assertEqual(plans, [(0, 0), (0, 1), (1, 0), (1, 1)])
        self.assertEqual([plan_distance([10, 30], [18, 40], plan) for plan in plans], [30, 18, 42, 34])

    def test_every_run_of_up_to_four_on_three_positions(self):
        for count, length in itertools.product((1, 2, 3), range(5)):
            for starts in itertools.product((0, 1, 2), repeat=count):
                for targets in itertools.product((0, 1, 2), repeat=length):
                    self.check(starts, targets)

    def test_every_run_of_three_on_unequal_distances(self):
        for starts in itertools.product((0, 3, 7), repeat=3):
            for targets in itertools.product((0, 1, 3, 5, 9), repeat=3):
                self.check(starts, targets)

    def test_runs_of_up_to_eight(self):
        # Per number of icebreakers how many runs of each length: all plans of the long ones take long.
        often = {1: [20] * 9, 2: [60] * 9, 3: [60, 60, 60, 60, 60, 60, 40, 40, 40]}
        numbers = Numbers(13)
        for count in often:
            for length, times in enumerate(often[count]):
                for each in range(times):
                    span = numbers.one_of([2, 3, 5, 12, 100])
                    starts = [numbers.below(span) for icebreaker in range(count)]
                    self.check(starts, [numbers.below(span) for target in range(length)])

    def test_eight_requests_at_few_positions(self):
        for starts in ([5, 5, 5], [4, 6, 5], [6, 5, 4], [0, 10, 5], [99, 0, 99]):
            for targets in ([5] * 8, [4, 6] * 4, [4, 6, 5, 5, 6, 4, 4, 6], [0, 99] * 4, [99, 99, 0, 0] * 2):
                self.check(starts, targets)


if __name__ == "__main__":
    unittest.main()
