"""Ways, gone meeting by meeting."""

from meetways.nets import end_of
from meetways.wholes import is_number_below


def led_to(meeting, place):
    """Tell where the meeting leads from the place, None where it has no step from there."""
    word, one, other, begin, long = meeting
    if place == one:
        return other
    if place == other and word == "both":
        return one
    return None


def is_way(net, place, moment, thing):
    """Tell whether the thing is a way from the place at the moment."""
    if not isinstance(thing, tuple):
        return False
    many, meetings = net
    here = place
    now = moment
    for number in thing:
        if not is_number_below(len(meetings), number):
            return False
        meeting = meetings[number]
        word, one, other, begin, long = meeting
        here = led_to(meeting, here)
        if here is None or begin < now:
            return False
        now = end_of(meeting)
    return True


def places_on(net, place, way):
    """Tell all places that the way from the place comes to, in order, the place ahead."""
    many, meetings = net
    places = [place]
    for number in way:
        places.append(led_to(meetings[number], places[-1]))
    return tuple(places)


def leaves_at(net, moment, way):
    """Tell when the way leaves; without meetings the moment stands for that."""
    many, meetings = net
    if len(way) == 0:
        return moment
    word, one, other, begin, long = meetings[way[0]]
    return begin


def comes_at(net, moment, way):
    """Tell when the way comes; without meetings that is the moment."""
    many, meetings = net
    if len(way) == 0:
        return moment
    return end_of(meetings[way[-1]])


def is_way_by(net, place, moment, other, by, thing):
    """Tell whether the thing is a way from the place at the moment that comes to the other place by then."""
    if not is_way(net, place, moment, thing):
        return False
    return places_on(net, place, thing)[-1] == other and comes_at(net, moment, thing) <= by


def waits_on(net, moment, way):
    """Tell for each meeting of the way how long it is waited for."""
    many, meetings = net
    waits = []
    now = moment
    for number in way:
        word, one, other, begin, long = meetings[number]
        waits.append(begin - now)
        now = begin + long
    return tuple(waits)
