"""Distances moved along a course.

A course is a list of lists of positions: those at the start, then those behind each request.
"""


def moved_between(before, after):
    """The sum of the distances that all icebreakers moved from one list of positions to the next."""
    return sum([abs(old - new) for old, new in zip(before, after)])


def course_distance(course):
    """The total distance that all icebreakers moved on a course."""
    total = 0
    for place in range(1, len(course)):
        total += moved_between(course[place - 1], course[place])
    return total
