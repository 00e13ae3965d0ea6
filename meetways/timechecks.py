"""The checker of papers of the least time, whoever wrote them."""

from meetways.earlychecks import never_holds
from meetways.floors import floor_holds, is_by
from meetways.nets import begins_from
from meetways.ways import comes_at, is_way, leaves_at, places_on
from meetways.wholes import is_whole


def row_holds(net, one, other, begin, least, row):
    """Tell whether the row is (begin, a floor by which who leaves then needs the least time or more)."""
    if not isinstance(row, tuple) or len(row) != 2:
        return False
    told, floor = row
    if not is_whole(told) or told != begin or not floor_holds(net, one, begin, floor):
        return False
    return not is_by(floor[other], begin + least - 1)


def floors_hold(net, one, moment, other, least, floors):
    """Tell whether the floors are those of all leavings from the moment on, none of them below the least time."""
    begins = begins_from(net, one, moment)
    if not isinstance(floors, tuple) or len(floors) != len(begins):
        return False
    return all(row_holds(net, one, other, begin, least, row) for begin, row in zip(begins, floors))


def takes_holds(net, one, moment, other, way, floors):
    """Tell whether the way comes to the other place, and the floors show that none takes less time."""
    if not is_way(net, one, moment, way) or places_on(net, one, way)[-1] != other:
        return False
    least = comes_at(net, moment, way) - leaves_at(net, moment, way)
    return floors_hold(net, one, moment, other, least, floors)


def time_paper_holds(net, one, moment, other, thing):
    """Tell whether the thing is a paper of the least time from the one place to the other, from the moment on."""
    if not isinstance(thing, tuple):
        return False
    if len(thing) == 3 and thing[0] == "takes":
        return takes_holds(net, one, moment, other, thing[1], thing[2])
    if len(thing) == 2 and thing[0] == "never":
        return never_holds(net, one, moment, other, thing[1])
    return False
