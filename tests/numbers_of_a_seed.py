"""Numbers that look mixed and are the same each time."""


class Numbers:
    """A row of whole numbers that is the same each time for the same seed."""

    def __init__(self, seed):
        self.state = seed

    def below(self, limit):
        self.state = (self.state * 6364136223846793005 + 1442695040888963407) % 2 ** 64
        return (self.state >> 33) % limit

    def one_of(self, choices):
        return choices[self.below(len(choices))]
