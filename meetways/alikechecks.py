"""The checker of papers of two nets that are alike, or that an ask parts, whoever wrote them."""

from meetways.meetchecks import none_comes_holds
from meetways.nets import steps_of
from meetways.ways import is_way_by
from meetways.wholes import is_number_below, is_whole


def ways_hold(net, steps, ways):
    """Tell whether the ways of the net, in order, come where the steps lead, from where and when these begin."""
    if not isinstance(ways, tuple) or len(ways) != len(steps):
        return False
    for (number, start, to, begin, end), way in zip(steps, ways):
        if not is_way_by(net, start, begin, to, end, way):
            return False
    return True


def is_moment(thing):
    """Tell whether the thing is a whole number from 0."""
    return is_whole(thing) and thing >= 0


def is_ask(many, thing):
    """Tell whether the thing is (place, moment, other, by), of so many places."""
    if not isinstance(thing, tuple) or len(thing) != 4:
        return False
    place, moment, other, by = thing
    return is_number_below(many, place) and is_number_below(many, other) and is_moment(moment) and is_moment(by)


def parts_holds(nets, which, ask, way, floor):
    """Tell whether the way of the net of this number shows that the ask is so there, and the floor that not so here."""
    many, meetings = nets[0]
    if not is_number_below(2, which) or not is_ask(many, ask):
        return False
    place, moment, other, by = ask
    if not is_way_by(nets[which], place, moment, other, by, way):
        return False
    return none_comes_holds(nets[1 - which], place, moment, other, by, floor)


def alike_paper_holds(one, other, thing):
    """Tell whether the thing is a paper that the two nets are alike, or that an ask parts them."""
    if not isinstance(thing, tuple):
        return False
    if len(thing) == 3 and thing[0] == "alike":
        return ways_hold(other, steps_of(one), thing[1]) and ways_hold(one, steps_of(other), thing[2])
    if len(thing) == 5 and thing[0] == "parts":
        return parts_holds((one, other), thing[1], thing[2], thing[3], thing[4])
    return False
