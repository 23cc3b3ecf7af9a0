"""What the document requires of the program as a whole, its points 1 to 6, over many lists of calls."""

import itertools
import unittest

from asking import BOUND, CURRENT, EACH, EXCESS, GREEDY, LIST, LOOKS, OPTIMAL, PLAN, TOTAL
from asking import ask, fleet, flat, last, preview, requests, responders, with_icebreaker, without
from numbers_of_a_seed import Numbers
from plain_model import plan_distance


def some_runs(seed, count):
    """Start positions and targets: all sizes, narrow and wide."""
    numbers = Numbers(seed)
    for each in range(count):
        span = numbers.one_of([2, 4, 10, 30, 100])
        first = numbers.below(101 - span)
        starts = [first + numbers.below(span) for place in range(1 + numbers.below(3))]
        yield starts, [first + numbers.below(span) for place in range(numbers.below(9))]


def harassing_runs():
    """Requests that each time fall where double coverage has nobody, and others that greedy does badly."""
    for gap in (2, 5, 12, 30, 49):
        for starts in ([0, gap], [gap, 0], [0, gap, 2 * gap], [2 * gap, 0, gap], [0, 0, gap]):
            for targets in itertools.product((0, gap // 2, gap, 3 * gap // 2), repeat=3):
                yield starts, (list(targets) * 3)[:8]
                yield starts, [targets[0], targets[1]] * 4


def runs():
    return itertools.chain(some_runs(1, 1500), harassing_runs())


def numbers_of(starts, targets, *calls):
    """The first number of each answer to the calls."""
    return [answer[0] for answer in last(fleet(*starts) + requests(*targets) + list(calls), len(calls))]


class Requirements(unittest.TestCase):
    def test_1_competitiveness(self):
        for starts, targets in runs():
            total, bound = numbers_of(starts, targets, TOTAL, BOUND)
            self.assertLessEqual(total, bound, (starts, targets))

    def test_1_competitiveness_behind_each_request(self):
        for starts, targets in some_runs(2, 300):
            calls = fleet(*starts)
            for target in targets:
                calls += requests(target) + [TOTAL, BOUND]
            told = ask(calls)[1 + len(starts):]
            for place in range(len(targets)):
                self.assertLessEqual(told[3 * place + 1], told[3 * place + 2], (starts, targets))

    def test_1_the_bound_is_reached(self):
        # So it can't be told any smaller.
        self.assertEqual(numbers_of([0, 98], [49], TOTAL, OPTIMAL, BOUND), [98, 49, 196])
        self.assertEqual(numbers_of([50], [0, 99], TOTAL, BOUND), [149, 149])

    def test_2_the_plan_has_the_optimal_distance(self):
        for starts, targets in runs():
            told = last(fleet(*starts) + requests(*targets) + [OPTIMAL, PLAN], 2)
            self.assertEqual(told[1][0], len(targets))
            self.assertEqual(len(told[1]), 1 + len(targets))
            self.assertLessEqual(set(told[1][1:]), set(range(len(starts))))
            self.assertEqual(told[0], [plan_distance(starts, targets, told[1][1:])], (starts, targets))

    def test_2_no_plan_has_a_smaller_distance_or_comes_ahead(self):
        for starts, targets in some_runs(3, 700):
            length = min(len(targets), 5) if len(starts) == 3 else len(targets)
            told = last(fleet(*starts) + requests(*targets[:length]) + [OPTIMAL, PLAN], 2)
            for plan in itertools.product(range(len(starts)), repeat=length):
                distance = plan_distance(starts, targets, plan)
                self.assertLessEqual((told[0][0], told[1][1:]), (distance, list(plan)), (starts, targets))

    def test_3_service(self):
        for starts, targets in runs():
            before = list(starts)
            for count, target in enumerate(targets):
                calls = fleet(*starts) + requests(*targets[:count]) + [preview(target), responders(target)]
                told = last(calls + requests(target) + [CURRENT, EACH], 5)
                after = told[2][1:]
                ways = [abs(new - old) for old, new in zip(before, after) if new != old]
                self.assertIn(target, after)
                self.assertLessEqual(len(ways), 2)
                self.assertLessEqual(len(set(ways)), 1)
                self.assertEqual(told[0], told[2])
                self.assertEqual(told[1][0], len(ways))
                self.assertEqual(told[2][0], sum(ways))
                self.assertEqual(told[3], [len(after)] + after)
                self.assertEqual(told[4][-1], sum(ways))
                before = after

    def test_4_online_algorithms_are_not_better(self):
        for starts, targets in runs():
            total, rushed, optimum = numbers_of(starts, targets, TOTAL, GREEDY, OPTIMAL)
            self.assertGreaterEqual(total, optimum, (starts, targets))
            self.assertGreaterEqual(rushed, optimum, (starts, targets))
            self.assertEqual(last(fleet(*starts) + requests(*targets) + [EXCESS]),
                             [[total - optimum, rushed - optimum]])

    def test_5_a_request_less_never_costs_more(self):
        for starts, targets in some_runs(5, 400):
            whole = numbers_of(starts, targets, OPTIMAL)[0]
            for index in range(len(targets)):
                saving, distance = last(fleet(*starts) + requests(*targets) + [without(index)])[0]
                self.assertGreaterEqual(saving, 0, (starts, targets, index))
                self.assertEqual(saving + distance, whole)
                rest = targets[:index] + targets[index + 1:]
                self.assertEqual(numbers_of(starts, rest, OPTIMAL), [distance])

    def test_5_an_icebreaker_more_never_costs_more(self):
        for starts, targets in some_runs(6, 600):
            if len(starts) < 3:
                for position in (0, 17, 50, 99, starts[0]):
                    optimum, more = numbers_of(starts, targets, OPTIMAL, with_icebreaker(position))
                    self.assertLessEqual(more, optimum, (starts, targets, position))
                    self.assertEqual(numbers_of(starts + [position], targets, OPTIMAL), [more])

    def test_6_errors_leave_the_instance_unchanged(self):
        refused = [[1, 100], [2, 3], [3, 3, 0], [3, 0, 100], [4, 100]]
        refused += [[18, 100], [19, 100], [20, 100], [22, 8], [23, 100]]
        for starts, targets in some_runs(7, 400):
            calls = fleet(*starts) + requests(*targets)
            told = last(calls + refused + LOOKS + [LIST, OPTIMAL, PLAN], len(refused) + 8)
            self.assertEqual([len(answer) for answer in told[:len(refused)]], [1] * len(refused))
            self.assertLess(max(flat(told[:len(refused)])), 0)
            self.assertEqual(told[len(refused):], last(calls + LOOKS + [LIST, OPTIMAL, PLAN], 8))

    def test_no_number_but_a_refusal_is_below_0(self):
        questions = [[call] for call in range(7, 18)] + [[21], [24], [18, 9], [19, 9], [20, 9]]
        for starts, targets in runs():
            self.assertGreaterEqual(min(flat(last(fleet(*starts) + requests(*targets) + questions, 16))), 0)


if __name__ == "__main__":
    unittest.main()
