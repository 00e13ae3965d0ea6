"""Meetings, nets, and the steps that the meetings of a net have."""

from meetways.wholes import is_number_below, is_whole

WORDS = ("to", "both")


def is_meeting(many, thing):
    """Tell whether the thing is a meeting of so many places."""
    if not isinstance(thing, tuple) or len(thing) != 5:
        return False
    word, one, other, begin, long = thing
    if word not in WORDS:
        return False
    if not is_number_below(many, one) or not is_number_below(many, other) or one == other:
        return False
    return is_whole(begin) and begin >= 0 and is_whole(long) and long >= 1


def is_net(thing):
    """Tell whether the thing is a net."""
    if not isinstance(thing, tuple) or len(thing) != 2:
        return False
    many, meetings = thing
    if not is_whole(many) or many < 1 or not isinstance(meetings, tuple):
        return False
    return all(is_meeting(many, meeting) for meeting in meetings)


def end_of(meeting):
    """Tell when the meeting ends."""
    word, one, other, begin, long = meeting
    return begin + long


def steps_of(net):
    """Tell all steps (number, from, to, begin, end), in the order of the meetings' numbers."""
    many, meetings = net
    steps = []
    for number, (word, one, other, begin, long) in enumerate(meetings):
        steps.append((number, one, other, begin, begin + long))
        if word == "both":
            steps.append((number, other, one, begin, begin + long))
    return tuple(steps)


def begins_from(net, one, moment):
    """Tell all moments, rising, each once, from the moment on, at which some step from the one place begins."""
    return tuple(sorted({
        begin for number, start, to, begin, end in steps_of(net) if start == one and begin >= moment}))


def inner_of(many, place, other):
    """Tell all of so many places but the two, rising."""
    return [inner for inner in range(many) if inner not in (place, other)]


def row_of(net, found):
    """Tell a row with what was found for each place, None where nothing was."""
    many, meetings = net
    return tuple([found.get(place) for place in range(many)])
