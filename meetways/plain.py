"""The plain form of a net, and a net without the meetings that nothing hangs on."""

from meetways.alike import step_missing
from meetways.narrow import net_of
from meetways.nets import steps_of
from meetways.reach import all_pairs


def come_from(pairs, moment):
    """Tell when the first of the pairs that leaves at the moment or later comes, None where none does."""
    for leave, come in pairs:
        if leave >= moment:
            return come
    return None


def is_made(pairs, thirds, one, other, leave, come):
    """Tell whether the pair (leave, come) of the two places is made of others, by one of the third places."""
    for third in thirds:
        between = come_from(pairs[(one, third)], leave)
        if between is not None:
            comes = come_from(pairs.get((third, other), ()), between)
            if comes is not None and comes <= come:
                return True
    return False


def reached_from(pairs):
    """Tell for each place that has pairs to others those others."""
    found = {}
    for one, other in pairs:
        found.setdefault(one, []).append(other)
    return found


def plain(net):
    """Tell the plain form of the net: its pairs that are not made of others, as meetings, rising."""
    many, meetings = net
    pairs = all_pairs(net)
    reached = reached_from(pairs)
    kept = []
    for one, other in pairs:
        for leave, come in pairs[(one, other)]:
            # The other place itself is no third one: no pair leads from it to itself.
            if not is_made(pairs, reached[one], one, other, leave, come):
                kept.append(("to", one, other, leave, come - leave))
    return many, tuple(sorted(kept))


def thinned(net):
    """Tell the numbers of the meetings that stay where, from the last on, each that can be done without goes."""
    many, meetings = net
    stay = list(range(len(meetings)))
    for number in reversed(range(len(meetings))):
        fewer = [kept for kept in stay if kept != number]
        # What stays is alike to the net; so is what stays without this one just where it can do what this one does.
        if step_missing(net_of(net, fewer), steps_of(net_of(net, (number,)))) is None:
            stay = fewer
    return tuple(stay)
