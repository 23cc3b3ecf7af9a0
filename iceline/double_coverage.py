"""The double coverage algorithm."""


def left_neighbour(positions, target):
    """The icebreaker with the greatest position less than the target, or None."""
    found = None
    for icebreaker, position in enumerate(positions):
        # Only a strictly nearer one replaces an earlier one: ties go to the smaller number.
        if position < target and (found is None or position > positions[found]):
            found = icebreaker
    return found


def right_neighbour(positions, target):
    """The icebreaker with the smallest position greater than the target, or None."""
    found = None
    for icebreaker, position in enumerate(positions):
        # Only a strictly nearer one replaces an earlier one: ties go to the smaller number.
        if position > target and (found is None or position < positions[found]):
            found = icebreaker
    return found


def covered(positions, target):
    """A new list of the positions after a request at the target. There is at least one icebreaker."""
    after = list(positions)
    if target in positions:
        return after
    left = left_neighbour(positions, target)
    right = right_neighbour(positions, target)
    if left is None:
        after[right] = target
    elif right is None:
        after[left] = target
    else:
        step = min(target - positions[left], positions[right] - target)
        after[left] = positions[left] + step
        after[right] = positions[right] - step
    return after


def coverage_course(starts, targets):
    """The positions at the start and behind each request, as double coverage serves them."""
    course = [list(starts)]
    for target in targets:
        course.append(covered(course[-1], target))
    return course
