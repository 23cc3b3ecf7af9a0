"""What would be: calls 18 to 20, 22 and 23."""

import unittest

from asking import BIGGEST, CREATE, CURRENT, LIST, OPTIMAL, TOTAL
from asking import add, ask, fleet, last, optimal_with, preview, request, requests, responders
from asking import with_icebreaker, without

EIGHT = (5, 90, 40, 41, 0, 99, 60, 20)
FULL = fleet(10, 30, 50) + requests(*EIGHT)


class WithATarget(unittest.TestCase):
    """What preview_request, optimal_distance_with_request and responders refuse, and what they don't."""

    def test_off_the_coast(self):
        for call in (preview, optimal_with, responders):
            for target in (100, 101, BIGGEST):
                self.assertEqual(last(fleet(10, 30) + [call(target)]), [[-22]], (call, target))

    def test_without_icebreakers(self):
        for call in (preview, optimal_with, responders):
            self.assertEqual(ask([CREATE, call(0), call(99)]), [[0], [-6], [-6]], call)

    def test_a_target_off_the_coast_goes_ahead_of_no_icebreakers(self):
        for call in (preview, optimal_with, responders):
            self.assertEqual(ask([CREATE, call(100), call(BIGGEST)]), [[0], [-22], [-22]], call)

    def test_eight_requests_are_no_hindrance(self):
        self.assertEqual(last(FULL + [request(7)]), [[-28]])
        for call in (preview, optimal_with, responders):
            for target in (0, 7, 20, 99):
                self.assertGreaterEqual(last(FULL + [call(target)])[0][0], 0, (call, target))
            self.assertEqual(last(FULL + [call(100)]), [[-22]], call)


class Preview(unittest.TestCase):
    def test_answers_what_request_would(self):
        for starts in ([50], [10, 30], [30, 10, 30]):
            for count in range(8):
                calls = fleet(*starts) + requests(*EIGHT[:count])
                for target in (0, 9, 10, 30, 31, 55, 99):
                    self.assertEqual(last(calls + [preview(target)]), last(calls + [request(target)]))

    def test_answers(self):
        calls = fleet(10, 30) + requests(18) + [preview(40), preview(20), preview(0), preview(22)]
        self.assertEqual(last(calls, 4), [[18, 18, 40], [4, 20, 20], [18, 0, 22], [0, 18, 22]])

    def test_with_eight_requests(self):
        self.assertEqual(last(fleet(50) + requests(*EIGHT) + [preview(7), preview(20)], 2), [[13, 7], [0, 20]])

    def test_it_adds_no_request(self):
        calls = fleet(10, 30) + requests(18) + [preview(40), LIST, CURRENT, TOTAL]
        self.assertEqual(last(calls, 3), [[1, 18], [2, 18, 22], [16]])


class OptimalWithRequest(unittest.TestCase):
    def test_answers_what_the_optimal_distance_would_be(self):
        for starts in ([50], [10, 30], [30, 10, 30]):
            for count in range(8):
                calls = fleet(*starts) + requests(*EIGHT[:count])
                for target in (0, 9, 10, 30, 31, 55, 99):
                    self.assertEqual(last(calls + [optimal_with(target)]),
                                     last(calls + [request(target), OPTIMAL]))

    def test_the_request_is_appended_at_the_end(self):
        self.assertEqual(last(fleet(0) + requests(10) + [optimal_with(5)]), [[15]])
        self.assertEqual(last(fleet(0) + requests(5) + [optimal_with(10)]), [[10]])

    def test_the_example(self):
        calls = fleet(10, 30) + requests(18) + [optimal_with(40), optimal_with(18), OPTIMAL]
        self.assertEqual(last(calls, 3), [[18], [8], [8]])

    def test_with_eight_requests(self):
        calls = fleet(50) + requests(*EIGHT) + [OPTIMAL, optimal_with(20), optimal_with(7), LIST]
        way = 45 + 85 + 50 + 1 + 41 + 99 + 39 + 40
        self.assertEqual(last(calls, 4), [[way], [way], [way + 13], [8] + list(EIGHT)])


class Responders(unittest.TestCase):
    def test_nobody_if_one_is_at_the_target(self):
        self.assertEqual(last(fleet(10, 30) + [responders(10), responders(30)], 2), [[0], [0]])

    def test_two_if_the_target_lies_between(self):
        self.assertEqual(last(fleet(10, 30) + [responders(18), responders(29)], 2), [[2, 0, 1], [2, 0, 1]])

    def test_in_increasing_order(self):
        self.assertEqual(last(fleet(30, 10) + [responders(18)]), [[2, 0, 1]])
        self.assertEqual(last(fleet(40, 10, 20) + [responders(25), responders(15)], 2), [[2, 0, 2], [2, 1, 2]])

    def test_one_if_the_target_lies_outside(self):
        self.assertEqual(last(fleet(10, 30) + [responders(40), responders(0)], 2), [[1, 1], [1, 0]])
        self.assertEqual(last(fleet(30, 50, 10) + [responders(99), responders(9)], 2), [[1, 1], [1, 2]])

    def test_ties_go_to_the_smaller_number(self):
        self.assertEqual(last(fleet(10, 10) + [responders(15), responders(5)], 2), [[1, 0], [1, 0]])
        self.assertEqual(last(fleet(20, 10, 10) + [responders(12)]), [[2, 0, 1]])
        self.assertEqual(last(fleet(10, 20, 20) + [responders(12)]), [[2, 0, 1]])

    def test_it_looks_at_the_current_positions(self):
        # They are at 18 and 22 then.
        calls = fleet(10, 30) + requests(18) + [responders(10), responders(18), responders(20), responders(25)]
        self.assertEqual(last(calls, 4), [[1, 0], [0], [2, 0, 1], [1, 1]])

    def test_with_eight_requests(self):
        calls = fleet(50) + requests(*EIGHT) + [responders(20), responders(21), LIST]
        self.assertEqual(last(calls, 3), [[0], [1, 0], [8] + list(EIGHT)])

    def test_they_are_those_whose_position_the_preview_changes(self):
        for target in range(100):
            told = last(FULL + [CURRENT, preview(target), responders(target)], 3)
            changed = [number for number in range(3) if told[0][1 + number] != told[1][1 + number]]
            self.assertEqual(told[2], [len(changed)] + changed, target)


class WithoutRequest(unittest.TestCase):
    def test_the_saving_stands_ahead_of_the_distance(self):
        calls = fleet(10, 30) + requests(18, 40) + [without(0), without(1), OPTIMAL, LIST]
        self.assertEqual(last(calls, 4), [[8, 10], [10, 8], [18], [2, 18, 40]])

    def test_the_only_request(self):
        self.assertEqual(last(fleet(10, 30) + requests(18) + [without(0)]), [[8, 0]])

    def test_a_saving_of_nothing(self):
        self.assertEqual(last(fleet(0) + requests(5, 10) + [without(0), without(1)], 2), [[0, 10], [5, 5]])

    def test_one_of_several_at_one_position(self):
        calls = fleet(0) + requests(5, 9, 5) + [without(0), without(1), without(2)]
        self.assertEqual(last(calls, 3), [[0, 13], [8, 5], [4, 9]])

    def test_it_answers_for_the_list_without_that_one(self):
        for index in range(8):
            calls = fleet(10, 30, 50) + requests(*EIGHT) + [OPTIMAL, without(index)]
            rest = EIGHT[:index] + EIGHT[index + 1:]
            whole, (saving, distance) = last(calls, 2)
            self.assertEqual([distance], last(fleet(10, 30, 50) + requests(*rest) + [OPTIMAL])[0])
            self.assertEqual([saving + distance], whole)

    def test_there_is_no_such_request(self):
        for count in range(9):
            calls = fleet(10, 30) + requests(*EIGHT[:count])
            told = last(calls + [without(count), without(count + 1), without(100), without(BIGGEST)], 4)
            self.assertEqual(told, [[-2]] * 4, count)

    def test_without_icebreakers_there_is_no_such_request(self):
        self.assertEqual(ask([CREATE, without(0), without(BIGGEST)]), [[0], [-2], [-2]])


class WithIcebreaker(unittest.TestCase):
    def test_the_optimal_distance_stands_ahead_of_double_coverage(self):
        calls = fleet(10, 30) + requests(18, 40) + [with_icebreaker(40), with_icebreaker(18), OPTIMAL, TOTAL]
        self.assertEqual(last(calls, 4), [[8, 16], [10, 10], [18], [34]])

    def test_the_requests_stay(self):
        calls = fleet(10, 30) + requests(18, 40) + [with_icebreaker(40), LIST, CURRENT]
        self.assertEqual(last(calls, 2), [[2, 18, 40], [2, 18, 40]])

    def test_it_answers_for_an_instance_with_one_more(self):
        for starts in ([50], [10, 30], [30, 10]):
            for position in (0, 10, 29, 30, 50, 99):
                asked = fleet(*starts) + requests(*EIGHT) + [with_icebreaker(position)]
                made = fleet(*starts, position) + requests(*EIGHT) + [OPTIMAL, TOTAL]
                self.assertEqual(last(asked)[0], [number for answer in last(made, 2) for number in answer])

    def test_without_requests(self):
        self.assertEqual(last(fleet(10) + [with_icebreaker(0), with_icebreaker(99)], 2), [[0, 0], [0, 0]])

    def test_without_icebreakers(self):
        self.assertEqual(ask([CREATE, with_icebreaker(5), with_icebreaker(100)]), [[0], [0, 0], [-22]])

    def test_off_the_coast(self):
        for position in (100, BIGGEST):
            self.assertEqual(last(fleet(10, 30) + [with_icebreaker(position)]), [[-22]], position)

    def test_a_fourth_is_refused(self):
        self.assertEqual(last(fleet(1, 2, 3) + [with_icebreaker(0), with_icebreaker(99)], 2), [[-28], [-28]])

    def test_a_fourth_off_the_coast_is_off_the_coast(self):
        self.assertEqual(last(fleet(1, 2, 3) + [with_icebreaker(100), with_icebreaker(BIGGEST)], 2), [[-22], [-22]])

    def test_eight_requests_are_no_hindrance(self):
        told = last(fleet(50) + requests(*EIGHT) + [OPTIMAL, TOTAL, with_icebreaker(5)], 3)
        self.assertLess(told[2][0], told[0][0])
        self.assertEqual(len(told[2]), 2)

    def test_one_more_may_be_added_afterwards(self):
        self.assertEqual(last(fleet(1, 2) + [with_icebreaker(5), add(7), with_icebreaker(5)], 3),
                         [[0, 0], [2], [-28]])


if __name__ == "__main__":
    unittest.main()
