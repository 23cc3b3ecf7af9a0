"""The calls on one instance, handed in and answered as lists of whole numbers."""

from iceline.operations import Instance, operate

CREATE = 0
NO_INSTANCE = -11

# How many parameters follow the number of each call, in the order of those numbers.
PARAMETER_COUNTS = (0, 1, 1, 2, 1, 0, 0, 0, 0, 0, 0, 0, 0, 0, 0, 0, 0, 0, 1, 1, 1, 0, 1, 1, 0)


def answers(calls):
    """For each call how many numbers it answers, then these numbers."""
    instance = None
    told = []
    place = 0
    while place < len(calls):
        call = calls[place]
        behind = place + 1 + PARAMETER_COUNTS[call]
        given = calls[place + 1:behind]
        if call == CREATE:
            instance = Instance()
            answer = [0]
        elif instance is None:
            answer = [NO_INSTANCE]
        else:
            answer = operate(instance, call, given)
        told.append(len(answer))
        told.extend(answer)
        place = behind
    return told
