"""Offline plans, which know all requests in advance.

A plan is a tuple with one icebreaker for each request; the icebreaker moves to the request. A plan
stands here behind its distance, in a pair, so that the smaller of two pairs has the smaller
distance or, where the distances are equal, the lexicographically smaller plan.
"""


def extended(best, target):
    """The best pairs with one more request, by the positions behind it.

    best has, for all positions that some plan leads to, the smallest pair of those plans. No more is
    needed: what the later requests cost depends on the positions alone, and of two plans of one
    length, followed by the same, the one that was smaller stays smaller.
    """
    longer = {}
    for positions in best:
        pair = best[positions]
        for icebreaker, position in enumerate(positions):
            after = positions[:icebreaker] + (target,) + positions[icebreaker + 1:]
            candidate = (pair[0] + abs(position - target), pair[1] + (icebreaker,))
            if after not in longer or candidate < longer[after]:
                longer[after] = candidate
    return longer


def best_pair(starts, targets):
    """The optimal distance and the optimal plan. Without icebreakers there are no targets."""
    best = {tuple(starts): (0, ())}
    for target in targets:
        best = extended(best, target)
    return min(best.values())


def smallest_distance(starts, targets):
    """The optimal distance."""
    return best_pair(starts, targets)[0]


def smallest_plan(starts, targets):
    """The optimal plan, as a list."""
    return list(best_pair(starts, targets)[1])
