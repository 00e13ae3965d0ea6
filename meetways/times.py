"""The least time that ways take, and papers of it."""

from meetways.earliest import earliest, early_way
from meetways.nets import begins_from
from meetways.reach import reach


def quickest(net, one, moment, other):
    """Tell (least time, a leaving from the moment on of a way that takes just that), None where no way comes."""
    takes = [(come - leave, leave) for leave, come in reach(net, one, other) if leave >= moment]
    return min(takes, default=None)


def least_time(net, one, moment, other):
    """Tell the least time of a way that leaves the one place from the moment on, None where none comes."""
    found = quickest(net, one, moment, other)
    if found is None:
        return None
    return found[0]


def time_paper(net, one, moment, other):
    """Tell a paper of the least time from the one place to the other one, from the moment on."""
    found = quickest(net, one, moment, other)
    if found is None:
        return "never", earliest(net, one, moment)
    # As no way beats the pair, the way that comes earliest from its leaving on leaves just then.
    way = early_way(net, one, found[1], other)
    floors = [(begin, earliest(net, one, begin)) for begin in begins_from(net, one, moment)]
    return "takes", way, tuple(floors)
