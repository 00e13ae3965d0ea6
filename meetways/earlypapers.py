"""Papers of the earliest: a way, and a floor that shows that none comes sooner."""

from meetways.earliest import earliest, early_way


def early_paper(net, place, moment, other):
    """Tell a paper of the earliest from the place at the moment to the other one."""
    floor = earliest(net, place, moment)
    way = early_way(net, place, moment, other)
    if way is None:
        return "never", floor
    return "comes", way, floor
