"""The checker of ways that share no meeting and meetings whose loss parts two places, whoever tells them."""

from meetways.meetchecks import none_comes_holds
from meetways.narrow import net_of, numbers_but
from meetways.ways import is_way_by
from meetways.wholes import is_rising_below


def ways_hold(net, place, moment, other, by, ways):
    """Tell whether the ways come from the place to the other one by then, and no two share a meeting."""
    if not isinstance(ways, tuple):
        return False
    if not all(is_way_by(net, place, moment, other, by, way) for way in ways):
        return False
    numbers = [number for way in ways for number in way]
    return len(set(numbers)) == len(numbers)


def parted_holds(net, place, moment, other, by, thing):
    """Tell whether the thing is (ways, lost, floor) that show each other to be as many and as few as can be."""
    if not isinstance(thing, tuple) or len(thing) != 3:
        return False
    many, meetings = net
    ways, lost, floor = thing
    if not is_rising_below(len(meetings), lost) or not ways_hold(net, place, moment, other, by, ways):
        return False
    if len(lost) != len(ways):
        return False
    return none_comes_holds(net_of(net, numbers_but(net, lost)), place, moment, other, by, floor)
