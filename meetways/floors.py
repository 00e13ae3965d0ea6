"""Floors: numbers that no coming is sooner than."""

from meetways.nets import steps_of
from meetways.wholes import is_row_of


def is_by(number, moment):
    """Tell whether there is a number, and it is at most the moment."""
    return number is not None and number <= moment


def floor_holds(net, place, moment, thing):
    """Tell whether the thing is a floor from the place at the moment."""
    many, meetings = net
    if not is_row_of(many, thing) or not is_by(thing[place], moment):
        return False
    for number, start, to, begin, end in steps_of(net):
        if is_by(thing[start], begin) and not is_by(thing[to], end):
            return False
    return True
