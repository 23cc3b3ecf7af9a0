"""A second way to compute the answers, straight from the words of the document.

It shares no code with the program: double coverage walks unit by unit, the greedy algorithm picks
the first of a sorted list, and all is computed anew from the start positions at each call.
"""

LENGTHS = {0: 1, 1: 2, 2: 2, 3: 3, 4: 2}


def walk(positions, target):
    """The positions behind a request, and the distance moved."""
    now = dict(enumerate(positions))
    lower = sorted((target - place, number) for number, place in now.items() if place < target)
    higher = sorted((place - target, number) for number, place in now.items() if place > target)
    moved = 0
    while target not in now.values():
        if lower:
            now[lower[0][1]] += 1
            moved += 1
        if higher:
            now[higher[0][1]] -= 1
            moved += 1
    return [now[number] for number in sorted(now)], moved


def rush(positions, target):
    """The positions behind a request that greedy serves, and the distance moved."""
    way, number = sorted((abs(place - target), number) for number, place in enumerate(positions))[0]
    return positions[:number] + [target] + positions[number + 1:], way


def played(serve, starts, targets):
    positions = list(starts)
    total = 0
    for target in targets:
        positions, moved = serve(positions, target)
        total += moved
    return positions, total


class Model:
    def __init__(self):
        self.starts = None
        self.targets = []

    def answer(self, call):
        number, given = call[0], call[1:]
        if number == 0:
            self.starts, self.targets = [], []
            return [0]
        if self.starts is None:
            return [-11]
        if number <= 3:
            return self.change_starts(number, given)
        if number <= 6:
            return self.change_requests(number, given)
        return self.look(number)

    def change_starts(self, number, given):
        there = number == 1 or given[0] in range(len(self.starts))
        if not there:
            return [-2]
        if number != 2 and given[-1] not in range(100):
            return [-22]
        if number == 1 and len(self.starts) == 3:
            return [-28]
        self.targets = []
        if number == 1:
            self.starts = self.starts + [given[0]]
            return [len(self.starts) - 1]
        old = self.starts[given[0]]
        put = [] if number == 2 else [given[1]]
        self.starts = self.starts[:given[0]] + put + self.starts[given[0] + 1:]
        return [len(self.starts)] if number == 2 else [old]

    def change_requests(self, number, given):
        if number == 6:
            count = len(self.targets)
            self.targets = []
            return [count]
        if number == 5:
            if not self.targets:
                return [-6]
            gone = self.targets[-1]
            self.targets = self.targets[:-1]
            return [gone]
        if given[0] not in range(100):
            return [-22]
        if not self.starts:
            return [-6]
        if len(self.targets) == 8:
            return [-28]
        before = played(walk, self.starts, self.targets)[1]
        self.targets = self.targets + given
        positions, total = played(walk, self.starts, self.targets)
        return [total - before] + positions

    def look(self, number):
        if number == 7:
            return [len(self.targets)] + self.targets
        if number == 9:
            return [len(self.starts)] + self.starts
        if number in (11, 12) and not self.starts:
            return [-6]
        serve = rush if number in (11, 12) else walk
        positions, total = played(serve, self.starts, self.targets)
        return [total] if number in (10, 11) else [len(positions)] + positions


def model_answers(calls):
    """The same as the program's answers to one list of whole numbers."""
    model = Model()
    rest = list(calls)
    told = []
    while rest:
        length = LENGTHS.get(rest[0], 1)
        answer = model.answer(rest[:length])
        rest = rest[length:]
        told += [len(answer)] + answer
    return told
