"""The fewest inner places whose loss parts two places, ways that share no inner place, and papers of both."""

from meetways.chosen import first_choice, next_choice, things_of
from meetways.earliest import earliest
from meetways.fewest import few_way, fewest
from meetways.narrow import net_of, numbers_around, numbers_back
from meetways.nets import inner_of, steps_of
from meetways.ways import places_on


def way_around(net, ask, shunned):
    """Tell a way of the fewest meetings that comes to none of the shunned places, None where there is none."""
    place, moment, other, by = ask
    numbers = numbers_around(net, shunned)
    way = few_way(net_of(net, numbers), place, moment, other, by)
    if way is None:
        return None
    return numbers_back(numbers, way)


def inner_on(net, ask, way):
    """Tell the inner places of a way of the fewest meetings, which comes to no place twice."""
    return places_on(net, ask[0], way)[1:-1]


def some_apart(net, ask, shunned, known):
    """Tell the known ways, that share no inner place and come to no shunned one, and all further ones that are found.

    Other ways might be more; besides these there is no further one.
    """
    ways = list(known)
    for way in known:
        shunned = shunned + inner_on(net, ask, way)
    way = way_around(net, ask, shunned)
    while way is not None:
        ways.append(way)
        shunned = shunned + inner_on(net, ask, way)
        way = way_around(net, ask, shunned)
    return ways


def can_part(net, ask, lost, more, known):
    """Tell whether so many more lost places, or fewer, besides these can part the two.

    The known ways share no inner place and come to none of the lost ones.
    """
    ways = some_apart(net, ask, lost, known)
    # Each of these ways needs a lost place of its own.
    if len(ways) > more:
        return False
    if not ways:
        return True
    first, *others = ways
    return any(can_part(net, ask, lost + (place,), more - 1, others) for place in inner_on(net, ask, first))


def inner_places(net, ask):
    """Tell all inner places that have a step, rising."""
    place, moment, other, by = ask
    steps = steps_of(net)
    found = sorted({start for number, start, to, begin, end in steps} | {to for number, start, to, begin, end in steps})
    return [inner for inner in found if inner not in (place, other)]


def places_lost(net, place, moment, other, by):
    """Tell the first of the fewest inner places whose loss parts the two; None where a way comes to none."""
    ask = (place, moment, other, by)
    if fewest(net, place, moment, other, by) == 1:
        return None
    ways = some_apart(net, ask, (), [])
    more = len(ways)
    while not can_part(net, ask, (), more, ways):
        more += 1
    lost = ()
    for inner in inner_places(net, ask):
        if len(lost) < more and can_part(net, ask, lost + (inner,), more - len(lost) - 1, []):
            lost = lost + (inner,)
    return lost


def least_ways(net, ask):
    """Tell a way for each tuple of inner places that are enough for one, and of which none can be spared.

    Each such tuple but the one that is found lacks one of its places, so that it is found without that place.
    """
    found = {}
    seen = {(): True}
    waiting = [()]
    while waiting:
        shunned = waiting.pop()
        way = way_around(net, ask, shunned)
        if way is not None:
            inner = tuple(sorted(inner_on(net, ask, way)))
            found[inner] = way
            for place in inner:
                further = tuple(sorted([*shunned, place]))
                if further not in seen:
                    seen[further] = True
                    waiting.append(further)
    return found


def most_apart(tuples, most):
    """Tell as many of the tuples as can be that share no place, where there cannot be more than most."""
    best = []
    for at, first in enumerate(tuples):
        rest = [further for further in tuples[at + 1:] if not any(place in first for place in further)]
        if len(best) < most and len(best) <= len(rest):
            found = [first] + most_apart(rest, most - 1)
            if len(found) > len(best):
                best = found
    return best


def places_apart(net, place, moment, other, by):
    """Tell as many ways as can be that share no inner place, where there is none that comes to no inner place."""
    ask = (place, moment, other, by)
    lost = places_lost(net, place, moment, other, by)
    if lost is None:
        return None
    ways = some_apart(net, ask, (), [])
    if len(ways) < len(lost):
        found = least_ways(net, ask)
        ways = [found[inner] for inner in most_apart(sorted(found, key=len), len(lost))]
    return tuple(ways)


def lost_paper(net, place, moment, other, by):
    """Tell (lost, floor, ways): lost places, a floor without these, ways that show that no fewer are enough."""
    many, meetings = net
    ask = (place, moment, other, by)
    lost = places_lost(net, place, moment, other, by)
    if lost is None:
        return None
    floor = earliest(net_of(net, numbers_around(net, lost)), place, moment)
    inner = inner_of(many, place, other)
    ways = []
    chosen = first_choice(len(inner), len(lost) - 1)
    while chosen is not None:
        ways.append(way_around(net, ask, things_of(inner, chosen)))
        chosen = next_choice(len(inner), chosen)
    return lost, floor, tuple(ways)


def gap():
    """Tell a net and (place, moment, other, by) of it where the fewest lost places are more than the ways apart.

    Its ways come to 1 and 2, to 1 and 3, or to 2 and 3: any two share a place, and no place is on all of them.
    """
    meetings = (
        ("to", 0, 1, 0, 1), ("to", 1, 2, 1, 1), ("to", 2, 4, 2, 1), ("to", 0, 2, 3, 1), ("to", 2, 3, 4, 1),
        ("to", 3, 4, 5, 1), ("to", 1, 3, 1, 1))
    return (5, meetings), (0, 0, 4, 6)
