"""The checkers of ceilings, and of papers of the latest, whoever wrote them."""

from meetways.nets import steps_of
from meetways.ways import comes_at, is_way, leaves_at, places_on
from meetways.wholes import is_row_of


def is_from(number, moment):
    """Tell whether there is a number, and it is at least the moment."""
    return number is not None and number >= moment


def ceiling_holds(net, place, moment, thing):
    """Tell whether the thing is a ceiling to the place by the moment."""
    many, meetings = net
    if not is_row_of(many, thing) or not is_from(thing[place], moment):
        return False
    for number, start, to, begin, end in steps_of(net):
        if is_from(thing[to], end) and not is_from(thing[start], begin):
            return False
    return True


def leaves_holds(net, one, place, moment, way, ceiling):
    """Tell whether the way comes to the place by the moment, and leaves at just the ceiling's number."""
    if not is_way(net, one, 0, way) or not ceiling_holds(net, place, moment, ceiling):
        return False
    if places_on(net, one, way)[-1] != place or comes_at(net, moment, way) > moment:
        return False
    return leaves_at(net, moment, way) == ceiling[one]


def none_leaves_holds(net, one, place, moment, ceiling):
    """Tell whether the ceiling has None for the one place."""
    return ceiling_holds(net, place, moment, ceiling) and ceiling[one] is None


def late_paper_holds(net, one, place, moment, thing):
    """Tell whether the thing is a paper of the latest from the one place to the place by the moment."""
    if not isinstance(thing, tuple):
        return False
    if len(thing) == 3 and thing[0] == "leaves":
        return leaves_holds(net, one, place, moment, thing[1], thing[2])
    if len(thing) == 2 and thing[0] == "never":
        return none_leaves_holds(net, one, place, moment, thing[1])
    return False
