"""The checker of papers of ways that wait only so long, whoever wrote them."""

from meetways.nets import steps_of
from meetways.ways import comes_at, is_way, places_on, waits_on
from meetways.wholes import is_row_of


def is_pair(thing):
    """Tell whether the thing is a tuple of two whole numbers."""
    return is_row_of(2, thing) and None not in thing


def are_steps(net, thing):
    """Tell whether the thing is a rising tuple of pairs (number, from) of steps."""
    if not isinstance(thing, tuple) or not all(is_pair(part) for part in thing):
        return False
    pairs = {(number, start): True for number, start, to, begin, end in steps_of(net)}
    if not all(pair in pairs for pair in thing):
        return False
    return all(pair < further for pair, further in zip(thing, thing[1:]))


def steps_in(net, some):
    """Tell the steps whose pairs are in some."""
    pairs = {pair: True for pair in some}
    return [step for step in steps_of(net) if (step[0], step[1]) in pairs]


def none_is_missing(net, place, moment, bound, some):
    """Tell whether each step is in some that can be gone first, or behind one in some, without too long a wait."""
    taken = steps_in(net, some)
    stands = [(place, moment)] + [(to, end) for number, start, to, begin, end in taken]
    pairs = {pair: True for pair in some}
    for number, start, to, begin, end in steps_of(net):
        if (number, start) not in pairs:
            if any(here == start and now <= begin <= now + bound for here, now in stands):
                return False
    return True


def ends_at(net, other, some):
    """Tell when the steps in some that lead to the other place end."""
    return [end for number, start, to, begin, end in steps_in(net, some) if to == other]


def way_holds(net, place, moment, other, bound, way):
    """Tell whether the way is let and comes to the other place, that to the place itself being () alone."""
    if not is_way(net, place, moment, way) or places_on(net, place, way)[-1] != other:
        return False
    if place == other and len(way) > 0:
        return False
    return all(wait <= bound for wait in waits_on(net, moment, way))


def wait_paper_holds(net, place, moment, other, bound, thing):
    """Tell whether the thing is a paper of the least coming, with this bound of waits, to the other place."""
    if not isinstance(thing, tuple) or len(thing) not in (2, 3):
        return False
    some = thing[-1]
    if not are_steps(net, some) or not none_is_missing(net, place, moment, bound, some):
        return False
    ends = ends_at(net, other, some)
    if len(thing) == 2:
        return thing[0] == "never" and place != other and len(ends) == 0
    if thing[0] != "comes" or not way_holds(net, place, moment, other, bound, thing[1]):
        return False
    return all(comes_at(net, moment, thing[1]) <= end for end in ends)
