"""Who reaches whom from when to when: the pairs (leave, come) of ways that no way beats."""

from meetways.earliest import comings
from meetways.nets import begins_from, steps_of


def pairs_from(net, one):
    """Tell the pairs of the one place and each unlike one that has some, by that place.

    Only places that are come to stand in the dict: a net that was read may have too many to go through.
    """
    found = {}
    # From the last leaving to the first, a pair is beaten just where one that was kept comes no later.
    for leave in reversed(begins_from(net, one, 0)):
        came, last = comings(net, one, leave)
        for other in came:
            kept = found.setdefault(other, [])
            if not kept or came[other] < kept[-1][1]:
                kept.append((leave, came[other]))
    return {other: tuple(reversed(found[other])) for other in found if other != one}


def reach(net, one, other):
    """Tell all pairs of the one place and the other one, rising."""
    return pairs_from(net, one).get(other, ())


def all_pairs(net):
    """Tell the pairs of any two unlike places that have some, by (one, other)."""
    found = {}
    for one in sorted({start for number, start, to, begin, end in steps_of(net)}):
        pairs = pairs_from(net, one)
        for other in pairs:
            found[(one, other)] = pairs[other]
    return found
