"""A second way to compute the answers, straight from the words of the document.

It shares no code with the program: double coverage walks unit by unit, the greedy algorithm picks
the first of a sorted list, the offline plans are written out one by one, and all is computed anew
from the start positions at each call.
"""

import functools
import itertools

LENGTHS = {1: 2, 2: 2, 3: 3, 4: 2, 18: 2, 19: 2, 20: 2, 22: 2, 23: 2}


def walk(positions, target):
    """The positions behind a request, and the distance moved."""
    now = dict(enumerate(positions))
    lower = sorted((target - place, number) for number, place in now.items() if place < target)
    higher = sorted((place - target, number) for number, place in now.items() if place > target)
    moved = 0
    while target not in now.values():
        if lower:
            now[lower[0][1]] += 1
            moved += 1
        if higher:
            now[higher[0][1]] -= 1
            moved += 1
    return [now[number] for number in sorted(now)], moved


def rush(positions, target):
    """The positions behind a request that greedy serves, and the distance moved."""
    way, number = sorted((abs(place - target), number) for number, place in enumerate(positions))[0]
    return positions[:number] + [target] + positions[number + 1:], way


def played(serve, starts, targets):
    positions = list(starts)
    total = 0
    for target in targets:
        positions, moved = serve(positions, target)
        total += moved
    return positions, total


def plan_distance(starts, targets, plan):
    """The distance of one offline plan."""
    positions = list(starts)
    total = 0
    for number, target in zip(plan, targets):
        total += abs(positions[number] - target)
        positions[number] = target
    return total


@functools.lru_cache(maxsize=20000)
def best_of_all(starts, targets):
    """The smallest distance of any offline plan, and the first plan with it in lexicographic order."""
    found = None
    for plan in itertools.product(range(len(starts)), repeat=len(targets)):
        distance = plan_distance(starts, targets, plan)
        if found is None or distance < found[0]:
            found = distance, plan
    return found


def optimum(starts, targets):
    return best_of_all(tuple(starts), tuple(targets))[0]


def pairs_apart(positions):
    return sum(abs(one - other) for one, other in itertools.combinations(positions, 2))


class Model:
    def __init__(self):
        self.starts = None
        self.targets = []

    def answer(self, call):
        number, given = call[0], call[1:]
        if number == 0:
            self.starts, self.targets = [], []
            return [0]
        if self.starts is None:
            return [-11]
        if number <= 3:
            return self.change_starts(number, given)
        if number <= 6:
            return self.change_requests(number, given)
        if number <= 12:
            return self.look(number)
        if number in (16, 21, 24):
            return self.measure(number)
        if number <= 17:
            return self.compare(number)
        if number <= 20:
            return self.foresee(number, given[0])
        return self.suppose(number, given[0])

    def change_starts(self, number, given):
        there = number == 1 or given[0] in range(len(self.starts))
        if not there:
            return [-2]
        if number != 2 and given[-1] not in range(100):
            return [-22]
        if number == 1 and len(self.starts) == 3:
            return [-28]
        self.targets = []
        if number == 1:
            self.starts = self.starts + [given[0]]
            return [len(self.starts) - 1]
        old = self.starts[given[0]]
        put = [] if number == 2 else [given[1]]
        self.starts = self.starts[:given[0]] + put + self.starts[given[0] + 1:]
        return [len(self.starts)] if number == 2 else [old]

    def change_requests(self, number, given):
        if number == 6:
            count = len(self.targets)
            self.targets = []
            return [count]
        if number == 5:
            if not self.targets:
                return [-6]
            gone = self.targets[-1]
            self.targets = self.targets[:-1]
            return [gone]
        if given[0] not in range(100):
            return [-22]
        if not self.starts:
            return [-6]
        if len(self.targets) == 8:
            return [-28]
        before = played(walk, self.starts, self.targets)[1]
        self.targets = self.targets + given
        positions, total = played(walk, self.starts, self.targets)
        return [total - before] + positions

    def look(self, number):
        if number == 7:
            return [len(self.targets)] + self.targets
        if number == 9:
            return [len(self.starts)] + self.starts
        if number in (11, 12) and not self.starts:
            return [-6]
        serve = rush if number in (11, 12) else walk
        positions, total = played(serve, self.starts, self.targets)
        return [total] if number in (10, 11) else [len(positions)] + positions

    def measure(self, number):
        positions, total = played(walk, self.starts, self.targets)
        if number == 16:
            return [pairs_apart(self.starts), pairs_apart(positions)]
        if number == 24:
            return [len(self.starts), len(self.targets), total]
        totals = [played(walk, self.starts, self.targets[:count])[1] for count in range(len(self.targets) + 1)]
        return [len(self.targets)] + [after - before for before, after in zip(totals, totals[1:])]

    def compare(self, number):
        if not self.starts:
            return [-6]
        distance, plan = best_of_all(tuple(self.starts), tuple(self.targets))
        if number == 13:
            return [distance]
        if number == 14:
            return [len(plan)] + list(plan)
        if number == 15:
            return [len(self.starts) * distance + pairs_apart(self.starts)]
        return [played(serve, self.starts, self.targets)[1] - distance for serve in (walk, rush)]

    def foresee(self, number, target):
        if target not in range(100):
            return [-22]
        if not self.starts:
            return [-6]
        if number == 19:
            return [optimum(self.starts, self.targets + [target])]
        before = played(walk, self.starts, self.targets)[0]
        after, moved = walk(before, target)
        if number == 18:
            return [moved] + after
        numbers = [each for each, (old, new) in enumerate(zip(before, after)) if old != new]
        return [len(numbers)] + numbers

    def suppose(self, number, given):
        if number == 22:
            if given not in range(len(self.targets)):
                return [-2]
            rest = [target for index, target in enumerate(self.targets) if index != given]
            return [optimum(self.starts, self.targets) - optimum(self.starts, rest), optimum(self.starts, rest)]
        if given not in range(100):
            return [-22]
        if len(self.starts) == 3:
            return [-28]
        starts = self.starts + [given]
        return [optimum(starts, self.targets), played(walk, starts, self.targets)[1]]


def model_answers(calls):
    """The same as the program's answers to one list of whole numbers."""
    model = Model()
    rest = list(calls)
    told = []
    while rest:
        length = LENGTHS.get(rest[0], 1)
        answer = model.answer(rest[:length])
        rest = rest[length:]
        told += [len(answer)] + answer
    return told
