"""The checker of papers of the fewest meetings, whoever wrote them."""

from meetways.floors import floor_holds, is_by
from meetways.nets import steps_of
from meetways.ways import is_way_by
from meetways.wholes import is_row_of


def row_follows(steps, ahead, row):
    """Tell whether the row is no later than one meeting more behind the row ahead."""
    for before, number in zip(ahead, row):
        if before is not None and not is_by(number, before):
            return False
    for number, start, to, begin, end in steps:
        if is_by(ahead[start], begin) and not is_by(row[to], end):
            return False
    return True


def rows_hold(net, place, moment, rows):
    """Tell whether row k is no later than any way of at most k meetings, by the clauses of such papers."""
    many, meetings = net
    if not all(is_row_of(many, row) for row in rows) or not is_by(rows[0][place], moment):
        return False
    steps = steps_of(net)
    return all(row_follows(steps, ahead, row) for ahead, row in zip(rows, rows[1:]))


def meets_holds(net, place, moment, other, by, way, rows):
    """Tell whether the way comes to the other place by then, and the rows show that none has fewer meetings."""
    if not is_way_by(net, place, moment, other, by, way):
        return False
    if not isinstance(rows, tuple) or len(rows) != len(way):
        return False
    if len(rows) == 0:
        return True
    return rows_hold(net, place, moment, rows) and not is_by(rows[-1][other], by)


def none_comes_holds(net, place, moment, other, by, floor):
    """Tell whether the floor shows that no way comes to the other place by then."""
    return floor_holds(net, place, moment, floor) and not is_by(floor[other], by)


def meets_paper_holds(net, place, moment, other, by, thing):
    """Tell whether the thing is a paper of the fewest meetings from the place at the moment to the other by then."""
    if not isinstance(thing, tuple):
        return False
    if len(thing) == 3 and thing[0] == "meets":
        return meets_holds(net, place, moment, other, by, thing[1], thing[2])
    if len(thing) == 2 and thing[0] == "never":
        return none_comes_holds(net, place, moment, other, by, thing[1])
    return False
