"""Distances moved along a course, and distances between icebreakers.

A course is a list of lists of positions: those at the start, then those behind each request.
"""


def moved_between(before, after):
    """The sum of the distances that all icebreakers moved from one list of positions to the next."""
    return sum([abs(old - new) for old, new in zip(before, after)])


def course_distances(course):
    """For each request the distance that all icebreakers moved for it on a course."""
    return [moved_between(course[place - 1], course[place]) for place in range(1, len(course))]


def course_distance(course):
    """The total distance that all icebreakers moved on a course."""
    return sum(course_distances(course))


def pair_distances(positions):
    """The sum of the distances between all pairs of icebreakers."""
    total = 0
    for place, position in enumerate(positions):
        # Only with those ahead of it, so that each pair counts once.
        for other in positions[:place]:
            total += abs(position - other)
    return total
