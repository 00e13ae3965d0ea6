"""The checker of what spreads, whoever tells it."""

from meetways.nets import row_of, steps_of
from meetways.wholes import is_row_of


def is_taking(thing):
    """Tell whether the thing is None, or a tuple (moment, hand, number) of whole numbers."""
    return thing is None or (is_row_of(3, thing) and None not in thing)


def least_takings(net, hands, row):
    """Tell for each place the least of what may take it, where the places ahead are taken as the row tells."""
    least = {}
    found = [(place, (moment, hand, -1)) for hand, (place, moment) in enumerate(hands)]
    for number, start, to, begin, end in steps_of(net):
        if row[start] is not None and row[start][0] <= begin:
            found.append((to, (end, row[start][1], number)))
    for place, taking in found:
        if place not in least or taking < least[place]:
            least[place] = taking
    return row_of(net, least)


def spread_holds(net, hands, thing):
    """Tell whether the thing is what spreads from the hands.

    As each step lasts, what takes a place hangs on sooner takings alone: just one row is the least by itself.
    """
    many, meetings = net
    if not isinstance(thing, tuple) or len(thing) != many or not all(is_taking(part) for part in thing):
        return False
    return thing == least_takings(net, hands, thing)
