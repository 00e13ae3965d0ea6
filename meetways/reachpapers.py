"""Papers of the pairs: a way for each, and floors that show that there are no others."""

from meetways.earliest import earliest, early_way
from meetways.reach import reach


def reach_paper(net, one, other):
    """Tell a paper of the pairs of the one place and the other one."""
    rows = []
    floors = [earliest(net, one, 0)]
    for leave, come in reach(net, one, other):
        # As no way beats the pair, the way that comes earliest from its leaving on leaves just then.
        rows.append((leave, come, early_way(net, one, leave, other)))
        floors.append(earliest(net, one, leave + 1))
    return tuple(rows), tuple(floors)
