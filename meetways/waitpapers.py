"""Papers of ways that wait only so long: a way, and all steps that such ways can go by."""

from meetways.waiting import let_comings


def when_come(coming):
    """Tell the moment of a coming (when, the step by which)."""
    return coming[0]


def way_by(step, ahead):
    """Tell the numbers of the steps up to this one, each with the one ahead of it."""
    numbers = []
    while step is not None:
        numbers.append(step[0])
        step = ahead[step]
    return tuple(reversed(numbers))


def wait_paper(net, place, moment, other, bound):
    """Tell a paper of the least coming, with this bound of waits, from the place at the moment to the other one."""
    comes, ahead = let_comings(net, place, moment, bound)
    some = tuple(sorted(ahead))
    if other not in comes:
        return "never", some
    come, step = min(comes[other], key=when_come)
    return "comes", way_by(step, ahead), some
