"""What an instance holds, and the operations on it.

Each operation takes the instance and the list of its parameters, and gives back the list of the
numbers that it answers; a refusal is a list of its code alone, and leaves the instance unchanged.
"""

from iceline.distance import course_distance, moved_between
from iceline.double_coverage import coverage_course, covered
from iceline.greedy import greedy_course

LAST_POSITION = 99
MOST_ICEBREAKERS = 3
MOST_REQUESTS = 8

NOT_THERE = -2
NONE_YET = -6
OFF_THE_COAST = -22
FULL = -28


class Instance:
    """The start positions of the icebreakers and the positions of the requests."""

    def __init__(self):
        self.starts = []
        self.targets = []


def current(instance):
    """The positions after double coverage has served all requests."""
    return coverage_course(instance.starts, instance.targets)[-1]


def counted(numbers):
    """A list's length, followed by what it holds."""
    return [len(numbers)] + numbers


def add_icebreaker(instance, given):
    position = given[0]
    if position > LAST_POSITION:
        return [OFF_THE_COAST]
    if len(instance.starts) >= MOST_ICEBREAKERS:
        return [FULL]
    instance.starts.append(position)
    instance.targets = []
    return [len(instance.starts) - 1]


def remove_icebreaker(instance, given):
    icebreaker = given[0]
    if icebreaker >= len(instance.starts):
        return [NOT_THERE]
    instance.starts.pop(icebreaker)
    instance.targets = []
    return [len(instance.starts)]


def set_start(instance, given):
    icebreaker = given[0]
    position = given[1]
    if icebreaker >= len(instance.starts):
        return [NOT_THERE]
    if position > LAST_POSITION:
        return [OFF_THE_COAST]
    old = instance.starts[icebreaker]
    instance.starts[icebreaker] = position
    instance.targets = []
    return [old]


def request(instance, given):
    target = given[0]
    if target > LAST_POSITION:
        return [OFF_THE_COAST]
    if len(instance.starts) == 0:
        return [NONE_YET]
    if len(instance.targets) >= MOST_REQUESTS:
        return [FULL]
    before = current(instance)
    after = covered(before, target)
    instance.targets.append(target)
    return [moved_between(before, after)] + after


def undo_request(instance, given):
    if len(instance.targets) == 0:
        return [NONE_YET]
    return [instance.targets.pop()]


def clear_requests(instance, given):
    old = len(instance.targets)
    instance.targets = []
    return [old]


def list_requests(instance, given):
    return counted(instance.targets)


def current_positions(instance, given):
    return counted(current(instance))


def start_positions(instance, given):
    return counted(instance.starts)


def total_distance(instance, given):
    return [course_distance(coverage_course(instance.starts, instance.targets))]


def greedy_distance(instance, given):
    if len(instance.starts) == 0:
        return [NONE_YET]
    return [course_distance(greedy_course(instance.starts, instance.targets))]


def greedy_positions(instance, given):
    if len(instance.starts) == 0:
        return [NONE_YET]
    return counted(greedy_course(instance.starts, instance.targets)[-1])


OPERATIONS = {
    1: add_icebreaker,
    2: remove_icebreaker,
    3: set_start,
    4: request,
    5: undo_request,
    6: clear_requests,
    7: list_requests,
    8: current_positions,
    9: start_positions,
    10: total_distance,
    11: greedy_distance,
    12: greedy_positions,
}


def operate(instance, call, given):
    """The numbers that the call answers. The instance exists, and the call is not create."""
    return OPERATIONS[call](instance, given)
