"""The greedy algorithm."""


def nearest(positions, target):
    """The icebreaker that is nearest to the target. There is at least one icebreaker."""
    found = 0
    for icebreaker, position in enumerate(positions):
        # Only a strictly nearer one replaces an earlier one: ties go to the smaller number.
        if abs(position - target) < abs(positions[found] - target):
            found = icebreaker
    return found


def greedy_course(starts, targets):
    """The positions at the start and behind each request, as the greedy algorithm serves them."""
    course = [list(starts)]
    for target in targets:
        after = list(course[-1])
        after[nearest(after, target)] = target
        course.append(after)
    return course
