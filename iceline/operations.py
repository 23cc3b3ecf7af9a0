"""What an instance holds, and the operations on it.

Each operation takes the instance and the list of its parameters, and gives back the list of the
numbers that it answers; a refusal is a list of its code alone, and leaves the instance unchanged.
"""

from iceline.distance import course_distance, course_distances, moved_between, pair_distances
from iceline.double_coverage import coverage_course, covered
from iceline.greedy import greedy_course
from iceline.offline import smallest_distance, smallest_plan

LAST_POSITION = 99
MOST_ICEBREAKERS = 3
MOST_REQUESTS = 8

NOT_THERE = -2
NONE_YET = -6
OFF_THE_COAST = -22
FULL = -28


class Instance:
    """The start positions of the icebreakers and the positions of the requests."""

    def __init__(self):
        self.starts = []
        self.targets = []


def current(instance):
    """The positions after double coverage has served all requests."""
    return coverage_course(instance.starts, instance.targets)[-1]


def coverage_total(starts, targets):
    """The total distance that double coverage moves."""
    return course_distance(coverage_course(starts, targets))


def greedy_total(starts, targets):
    """The total distance that the greedy algorithm moves."""
    return course_distance(greedy_course(starts, targets))


def served(instance, target):
    """The distance that double coverage moves for one more request, followed by the positions behind it."""
    before = current(instance)
    after = covered(before, target)
    return [moved_between(before, after)] + after


def counted(numbers):
    """A list's length, followed by what it holds."""
    return [len(numbers)] + numbers


def start_refusal(instance, position):
    """The refusal of one more icebreaker at the position, or None."""
    if position > LAST_POSITION:
        return [OFF_THE_COAST]
    if len(instance.starts) >= MOST_ICEBREAKERS:
        return [FULL]
    return None


def target_refusal(instance, target):
    """The refusal of a target, however many requests there are already, or None."""
    if target > LAST_POSITION:
        return [OFF_THE_COAST]
    if len(instance.starts) == 0:
        return [NONE_YET]
    return None


def add_icebreaker(instance, given):
    position = given[0]
    refusal = start_refusal(instance, position)
    if refusal is not None:
        return refusal
    instance.starts.append(position)
    instance.targets = []
    return [len(instance.starts) - 1]


def remove_icebreaker(instance, given):
    icebreaker = given[0]
    if icebreaker >= len(instance.starts):
        return [NOT_THERE]
    instance.starts.pop(icebreaker)
    instance.targets = []
    return [len(instance.starts)]


def set_start(instance, given):
    icebreaker = given[0]
    position = given[1]
    if icebreaker >= len(instance.starts):
        return [NOT_THERE]
    if position > LAST_POSITION:
        return [OFF_THE_COAST]
    old = instance.starts[icebreaker]
    instance.starts[icebreaker] = position
    instance.targets = []
    return [old]


def request(instance, given):
    target = given[0]
    refusal = target_refusal(instance, target)
    if refusal is not None:
        return refusal
    if len(instance.targets) >= MOST_REQUESTS:
        return [FULL]
    answer = served(instance, target)
    instance.targets.append(target)
    return answer


def undo_request(instance, given):
    if len(instance.targets) == 0:
        return [NONE_YET]
    return [instance.targets.pop()]


def clear_requests(instance, given):
    old = len(instance.targets)
    instance.targets = []
    return [old]


def list_requests(instance, given):
    return counted(instance.targets)


def current_positions(instance, given):
    return counted(current(instance))


def start_positions(instance, given):
    return counted(instance.starts)


def total_distance(instance, given):
    return [coverage_total(instance.starts, instance.targets)]


def greedy_distance(instance, given):
    if len(instance.starts) == 0:
        return [NONE_YET]
    return [greedy_total(instance.starts, instance.targets)]


def greedy_positions(instance, given):
    if len(instance.starts) == 0:
        return [NONE_YET]
    return counted(greedy_course(instance.starts, instance.targets)[-1])


def optimal_distance(instance, given):
    if len(instance.starts) == 0:
        return [NONE_YET]
    return [smallest_distance(instance.starts, instance.targets)]


def optimal_plan(instance, given):
    if len(instance.starts) == 0:
        return [NONE_YET]
    return counted(smallest_plan(instance.starts, instance.targets))


def competitive_bound(instance, given):
    icebreakers = len(instance.starts)
    if icebreakers == 0:
        return [NONE_YET]
    optimum = smallest_distance(instance.starts, instance.targets)
    return [icebreakers * optimum + pair_distances(instance.starts)]


def spread(instance, given):
    return [pair_distances(instance.starts), pair_distances(current(instance))]


def excess(instance, given):
    starts = instance.starts
    targets = instance.targets
    if len(starts) == 0:
        return [NONE_YET]
    optimum = smallest_distance(starts, targets)
    return [coverage_total(starts, targets) - optimum, greedy_total(starts, targets) - optimum]


def preview_request(instance, given):
    target = given[0]
    refusal = target_refusal(instance, target)
    if refusal is not None:
        return refusal
    return served(instance, target)


def optimal_distance_with_request(instance, given):
    target = given[0]
    refusal = target_refusal(instance, target)
    if refusal is not None:
        return refusal
    return [smallest_distance(instance.starts, instance.targets + [target])]


def responders(instance, given):
    target = given[0]
    refusal = target_refusal(instance, target)
    if refusal is not None:
        return refusal
    before = current(instance)
    after = covered(before, target)
    moved = [icebreaker for icebreaker in range(len(before)) if before[icebreaker] != after[icebreaker]]
    return counted(moved)


def distances_per_request(instance, given):
    return counted(course_distances(coverage_course(instance.starts, instance.targets)))


def saving_without_request(instance, given):
    index = given[0]
    targets = instance.targets
    if index >= len(targets):
        return [NOT_THERE]
    distance = smallest_distance(instance.starts, targets[:index] + targets[index + 1:])
    return [smallest_distance(instance.starts, targets) - distance, distance]


def distances_with_icebreaker(instance, given):
    position = given[0]
    refusal = start_refusal(instance, position)
    if refusal is not None:
        return refusal
    starts = instance.starts + [position]
    return [smallest_distance(starts, instance.targets), coverage_total(starts, instance.targets)]


def summary(instance, given):
    total = coverage_total(instance.starts, instance.targets)
    return [len(instance.starts), len(instance.targets), total]


OPERATIONS = {
    1: add_icebreaker,
    2: remove_icebreaker,
    3: set_start,
    4: request,
    5: undo_request,
    6: clear_requests,
    7: list_requests,
    8: current_positions,
    9: start_positions,
    10: total_distance,
    11: greedy_distance,
    12: greedy_positions,
    13: optimal_distance,
    14: optimal_plan,
    15: competitive_bound,
    16: spread,
    17: excess,
    18: preview_request,
    19: optimal_distance_with_request,
    20: responders,
    21: distances_per_request,
    22: saving_without_request,
    23: distances_with_icebreaker,
    24: summary,
}


def operate(instance, call, given):
    """The numbers that the call answers. The instance exists, and the call is not create."""
    return OPERATIONS[call](instance, given)
