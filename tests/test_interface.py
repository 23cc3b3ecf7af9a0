"""The form of the calls and of their answers, and what holds before create."""

import contextlib
import inspect
import io
import unittest

from asking import BIGGEST, CREATE, LOOKS, add, ask, flat, fleet, last, move_start, remove, request, requests
from asking import optimal_with, preview, responders, with_icebreaker, without
from iceline import coast
from iceline.coast import answers

EVERY_CALL = [add(5), remove(0), move_start(0, 5), request(5)] + [[call] for call in range(5, 18)]
EVERY_CALL += [preview(5), optimal_with(5), responders(5), [21], without(0), with_icebreaker(5), [24]]
EXAMPLE = [0, 1, 10, 1, 30, 4, 18, 4, 40, 10, 13, 15, 4, 100]
EXAMPLE_ANSWER = [1, 0, 1, 0, 1, 1, 3, 16, 18, 22, 3, 18, 18, 40, 1, 34, 1, 18, 1, 56, 1, -22]


class Interface(unittest.TestCase):
    def test_the_documents_example(self):
        self.assertEqual(answers(EXAMPLE), EXAMPLE_ANSWER)

    def test_answers_is_a_plain_function_of_calls(self):
        self.assertEqual(str(inspect.signature(coast.answers)), "(calls)")
        self.assertEqual(coast.answers.__module__, "iceline.coast")
        self.assertEqual(answers(calls=[0]), [1, 0])

    def test_the_answer_is_a_list_of_whole_numbers(self):
        answer = answers(flat(fleet(3, 4) + EVERY_CALL))
        self.assertIs(answer.__class__, list)
        self.assertEqual({number.__class__ for number in answer}, {int})

    def test_what_is_handed_in_stays_as_it_was(self):
        for calls in ([0], [9], EXAMPLE, flat(fleet(3, 4) + EVERY_CALL)):
            handed = list(calls)
            answer = answers(handed)
            self.assertEqual(handed, calls)
            self.assertIsNot(answer, handed)

    def test_what_is_handed_in_is_never_written(self):
        class Sealed(list):
            def refuse(self, *given):
                raise AssertionError("the list that was handed in is changed")

            __setitem__ = __delitem__ = __iadd__ = __imul__ = refuse
            append = extend = insert = pop = remove = clear = sort = reverse = refuse

        self.assertEqual(answers(Sealed(EXAMPLE)), EXAMPLE_ANSWER)

    def test_the_same_list_asked_twice_gives_the_same(self):
        self.assertEqual(answers(EXAMPLE), EXAMPLE_ANSWER)
        self.assertEqual(answers(EXAMPLE), EXAMPLE_ANSWER)

    def test_an_answer_that_is_changed_changes_no_later_one(self):
        first = answers(EXAMPLE)
        first[:] = [7] * len(first)
        self.assertEqual(answers(EXAMPLE), EXAMPLE_ANSWER)

    def test_nothing_is_kept_from_one_list_to_the_next(self):
        answers(EXAMPLE)
        self.assertEqual(answers([9]), [1, -11])
        self.assertEqual(answers([0, 9, 7]), [1, 0, 1, 0, 1, 0])

    def test_each_call_takes_just_its_own_parameters(self):
        # The summary behind it is read as a call of its own only if the call took what it has to.
        for call in EVERY_CALL:
            told = last(fleet(3, 4) + requests(6) + [call, [24], [24]], 2)
            self.assertEqual([len(answer) for answer in told], [3, 3], call)

    def test_forty_calls_are_answered(self):
        calls = fleet(10, 30, 50) + requests(1, 2, 3, 4, 5, 6, 7, 8) + [[10]] * 28
        self.assertEqual(len(calls), 40)
        self.assertEqual(last(calls, 28), [last(calls[:13])[0]] * 28)

    def test_a_hundred_and_twenty_numbers_are_answered(self):
        calls = [move_start(0, 5)] * 40
        self.assertEqual(len(flat(calls)), 120)
        self.assertEqual(ask(calls), [[-11]] * 40)

    def test_nothing_is_printed(self):
        said, complained = io.StringIO(), io.StringIO()
        with contextlib.redirect_stdout(said), contextlib.redirect_stderr(complained):
            answers(flat(fleet(3, 4) + EVERY_CALL))
        self.assertEqual((said.getvalue(), complained.getvalue()), ("", ""))


class BeforeCreate(unittest.TestCase):
    def test_each_other_call_is_refused(self):
        for call in EVERY_CALL:
            self.assertEqual(ask([call]), [[-11]], call)
        self.assertEqual(ask(EVERY_CALL), [[-11]] * 24)

    def test_the_lack_of_an_instance_is_checked_first(self):
        for call in (add(100), remove(BIGGEST), move_start(3, 100), request(BIGGEST), preview(100),
                     optimal_with(BIGGEST), responders(100), without(BIGGEST), with_icebreaker(100)):
            self.assertEqual(ask([call]), [[-11]], call)

    def test_what_was_refused_leaves_no_trace(self):
        self.assertEqual(last(EVERY_CALL + [CREATE] + LOOKS, 6), [[0], [0], [0], [0], [0], [-6]])


class Create(unittest.TestCase):
    def test_a_new_instance_is_empty(self):
        self.assertEqual(ask([CREATE] + [[call] for call in range(5, 13)]),
                         [[0], [-6], [0], [0], [0], [0], [0], [-6], [-6]])
        self.assertEqual(ask([CREATE] + [[call] for call in (13, 14, 15, 16, 17, 21, 24)]),
                         [[0], [-6], [-6], [-6], [0, 0], [-6], [0], [0, 0, 0]])
        self.assertEqual(ask([CREATE, preview(5), optimal_with(5), responders(5), without(0), with_icebreaker(5)]),
                         [[0], [-6], [-6], [-6], [-2], [0, 0]])

    def test_a_second_create_replaces_the_instance(self):
        calls = fleet(10, 30) + requests(18) + [CREATE]
        self.assertEqual(last(calls + LOOKS, 6), [[0], [0], [0], [0], [0], [-6]])
        self.assertEqual(last(calls + [add(7), request(9)], 2), [[0], [2, 9]])


if __name__ == "__main__":
    unittest.main()
