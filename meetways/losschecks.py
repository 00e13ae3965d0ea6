"""The checker of papers of the fewest lost places, whoever wrote them."""

from meetways.chosen import first_choice, next_choice, things_of
from meetways.meetchecks import none_comes_holds
from meetways.narrow import net_of, numbers_around
from meetways.nets import inner_of
from meetways.ways import is_way_by, places_on
from meetways.wholes import is_rising_below


def way_shuns(net, ask, shunned, way):
    """Tell whether the way comes from the place to the other one by then, and to none of the shunned places."""
    place, moment, other, by = ask
    if not is_way_by(net, place, moment, other, by, way):
        return False
    return not any(on in shunned for on in places_on(net, place, way))


def ways_hold(net, ask, fewer, ways):
    """Tell whether there is a way, in order, for each choice of so many inner places that comes to none of these."""
    many, meetings = net
    place, moment, other, by = ask
    if not isinstance(ways, tuple):
        return False
    inner = inner_of(many, place, other)
    chosen = first_choice(len(inner), fewer)
    # Choices may be too many to go through: each is made only where a way for the one ahead was told.
    for way in ways:
        if chosen is None or not way_shuns(net, ask, things_of(inner, chosen), way):
            return False
        chosen = next_choice(len(inner), chosen)
    return chosen is None


def lost_paper_holds(net, place, moment, other, by, thing):
    """Tell whether the thing is a paper of the fewest lost places of the place at the moment and the other by then."""
    if not isinstance(thing, tuple) or len(thing) != 3:
        return False
    many, meetings = net
    lost, floor, ways = thing
    if not is_rising_below(many, lost) or place in lost or other in lost:
        return False
    if not none_comes_holds(net_of(net, numbers_around(net, lost)), place, moment, other, by, floor):
        return False
    return ways_hold(net, (place, moment, other, by), len(lost) - 1, ways)
