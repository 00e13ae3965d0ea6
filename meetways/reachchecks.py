"""The checker of papers of the pairs, whoever wrote them."""

from meetways.floors import floor_holds, is_by
from meetways.ways import comes_at, is_way, leaves_at, places_on
from meetways.wholes import is_whole


def row_holds(net, one, other, row):
    """Tell whether the row is (leave, come, way), of a way that leaves the one and comes to the other just then."""
    if not isinstance(row, tuple) or len(row) != 3:
        return False
    leave, come, way = row
    if not is_whole(leave) or not is_whole(come) or not is_way(net, one, 0, way):
        return False
    # As the two places are unlike, a way that comes to the other has a meeting.
    if places_on(net, one, way)[-1] != other:
        return False
    return leaves_at(net, 0, way) == leave and comes_at(net, 0, way) == come


def rows_hold(net, one, other, rows):
    """Tell whether all rows hold, and rise by leave and by come."""
    if not all(row_holds(net, one, other, row) for row in rows):
        return False
    for (leave, come, way), (next_leave, next_come, next_way) in zip(rows, rows[1:]):
        if leave >= next_leave or come >= next_come:
            return False
    return True


def floors_hold(net, one, other, rows, floors):
    """Tell whether the floors show that who leaves ahead of a row, or behind the last, comes no sooner than told."""
    moments = [0] + [leave + 1 for leave, come, way in rows]
    if not all(floor_holds(net, one, moment, floor) for moment, floor in zip(moments, floors)):
        return False
    for (leave, come, way), floor in zip(rows, floors):
        if is_by(floor[other], come - 1):
            return False
    return floors[-1][other] is None


def reach_paper_holds(net, one, other, thing):
    """Tell whether the thing is a paper of the pairs of the one place and the other one."""
    if not isinstance(thing, tuple) or len(thing) != 2:
        return False
    rows, floors = thing
    if not isinstance(rows, tuple) or not isinstance(floors, tuple) or len(floors) != len(rows) + 1:
        return False
    return rows_hold(net, one, other, rows) and floors_hold(net, one, other, rows, floors)
