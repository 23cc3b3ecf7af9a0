"""Hands lists of calls to the program and takes its answer apart."""

from iceline.coast import answers

CREATE = [0]
UNDO = [5]
CLEAR = [6]
LIST = [7]
CURRENT = [8]
STARTS = [9]
TOTAL = [10]
GREEDY = [11]
GREEDY_POSITIONS = [12]
OPTIMAL = [13]
PLAN = [14]
BOUND = [15]
SPREAD = [16]
EXCESS = [17]
EACH = [21]
SUMMARY = [24]

# What an instance shows of itself.
LOOKS = [LIST, STARTS, CURRENT, TOTAL, GREEDY_POSITIONS]

BIGGEST = 4294967295


def add(position):
    return [1, position]


def remove(icebreaker):
    return [2, icebreaker]


def move_start(icebreaker, position):
    return [3, icebreaker, position]


def request(target):
    return [4, target]


def preview(target):
    return [18, target]


def optimal_with(target):
    return [19, target]


def responders(target):
    return [20, target]


def without(index):
    return [22, index]


def with_icebreaker(position):
    return [23, position]


def fleet(*starts):
    """The calls that make an instance with these start positions."""
    return [CREATE] + [add(start) for start in starts]


def requests(*targets):
    return [request(target) for target in targets]


def flat(calls):
    return [number for call in calls for number in call]


def parts(answer):
    """The answer's numbers call by call. What it says of its lengths has to come out even."""
    found = []
    place = 0
    while place < len(answer):
        behind = place + 1 + answer[place]
        if answer[place] < 1 or behind > len(answer):
            raise AssertionError(f"wrong length at {place} of {answer}")
        found.append(answer[place + 1:behind])
        place = behind
    return found


def ask(calls):
    """What each of the calls answers."""
    if not 1 <= len(calls) <= 40:
        raise AssertionError(f"{len(calls)} calls in one list")
    found = parts(answers(flat(calls)))
    if len(found) != len(calls):
        raise AssertionError(f"{len(found)} answers to {len(calls)} calls")
    return found


def last(calls, count=1):
    """What the last so many of the calls answer."""
    return ask(calls)[-count:]
