"""The checker of papers of the earliest, whoever wrote them."""

from meetways.floors import floor_holds
from meetways.ways import comes_at, is_way, places_on


def comes_holds(net, place, moment, other, way, floor):
    """Tell whether the way comes to the other place at just the floor's number for it."""
    if not is_way(net, place, moment, way) or not floor_holds(net, place, moment, floor):
        return False
    return places_on(net, place, way)[-1] == other and comes_at(net, moment, way) == floor[other]


def never_holds(net, place, moment, other, floor):
    """Tell whether the floor has None for the other place."""
    return floor_holds(net, place, moment, floor) and floor[other] is None


def early_paper_holds(net, place, moment, other, thing):
    """Tell whether the thing is a paper of the earliest from the place at the moment to the other one."""
    if not isinstance(thing, tuple):
        return False
    if len(thing) == 3 and thing[0] == "comes":
        return comes_holds(net, place, moment, other, thing[1], thing[2])
    if len(thing) == 2 and thing[0] == "never":
        return never_holds(net, place, moment, other, thing[1])
    return False
