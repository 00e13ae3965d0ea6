"""What several tests need: nets, odd things, and the points told over again in the slowest, plainest way."""

import itertools
import random

from meetways.nettexts import read_net, show_net

FAR = 10 ** 13
FORTY = 10 ** 39


def deep(depth, kind):
    """A thing nested so deep, of tuples, lists or dicts."""
    thing = 0
    for _ in range(depth):
        if kind == "tuple":
            thing = (thing,)
        elif kind == "list":
            thing = [thing]
        else:
            thing = {"to": thing}
    return thing


DEEP = tuple(deep(30, kind) for kind in ("tuple", "list", "dict"))

ODD_PARTS = (
    True, False, None, "", "0", "1", "to", "both", "To", "to ", "comes", "never", "leaves",
    "takes", "meets", "alike", "parts",
    0, 1, 2, 3, -1, FAR, FORTY, -FORTY,
    (), (0,), (None,), (True,), (0, 1), [], [0], [None], {}, {0: 0}, {"to": 1},
) + DEEP

ODD_THINGS = ODD_PARTS + (
    "places 1", "places 2\nto 0 1 0 1", "x" * 4000, "9" * 4000, "\n" * 4000,
    (0,) * 19000, [0] * 19000, (None,) * 19000, (True,) * 300, {n: n for n in range(9000)},
    (1, ()), (1, []), [1, ()], (True, ()), (0, ()), ("1", ()), (1,), (1, (), ()), (None, ()), (1, None), (1, {}),
)


def same(one, other):
    """Whether two things are the same, of the same kinds too (True is no 1 here)."""
    return repr(one) == repr(other)


def near(thing):
    """All things that are as this one but for one part, at any depth, or one part more or fewer."""
    for odd in ODD_PARTS:
        yield odd
    if not isinstance(thing, tuple):
        if type(thing) is int:
            yield thing + 1
            yield thing - 1
            yield -thing
            yield str(thing)
        return
    yield list(thing)
    yield dict(enumerate(thing))
    yield thing[::-1]
    for at in range(1, len(thing)):
        yield thing[:at - 1] + (thing[at], thing[at - 1]) + thing[at + 1:]
    yield thing + (None,)
    yield (thing,)
    for odd in (0, 1, "to", ()):
        yield thing + (odd,)
        yield (odd,) + thing
    for at, part in enumerate(thing):
        yield thing[:at] + thing[at + 1:]
        yield thing[:at] + (part,) + thing[at:]
        for put in near(part):
            yield thing[:at] + (put,) + thing[at + 1:]


# --- the points, told over again -------------------------------------------------------------------------------


def whole(thing):
    return type(thing) is int


def right_meeting(many, thing):
    if type(thing) is not tuple or len(thing) != 5:
        return False
    kinds = [type(part) for part in thing]
    if kinds != [str, int, int, int, int]:
        return False
    word, one, other, begin, long = thing
    places_fit = min(one, other) >= 0 and max(one, other) < many and one != other
    return (word == "to" or word == "both") and places_fit and begin > -1 and long > 0


def right_net(thing):
    if type(thing) is not tuple or [type(part) for part in thing] != [int, tuple]:
        return False
    return thing[0] > 0 and False not in [right_meeting(thing[0], meeting) for meeting in thing[1]]


def plain_steps(net):
    """All steps: for each meeting one, or two."""
    steps = []
    for number in range(len(net[1])):
        word, one, other, begin, long = net[1][number]
        ways_round = [(one, other)] if word == "to" else [(one, other), (other, one)]
        steps += [(number, start, to, begin, begin + long) for start, to in ways_round]
    return steps


def gone(net, place, moment, thing):
    """The steps of a way, or None where the thing is none."""
    if type(thing) is not tuple or [part for part in thing if type(part) is not int]:
        return None
    steps = plain_steps(net)
    taken = []
    for number in thing:
        fitting = [step for step in steps if step[0] == number and step[1] == place and step[3] >= moment]
        if not fitting:
            return None
        taken.append(fitting[0])
        place, moment = fitting[0][2], fitting[0][4]
    return taken


def end_of_way(net, place, moment, way):
    """(where the way comes to, when)."""
    taken = gone(net, place, moment, way)
    return (taken[-1][2], taken[-1][4]) if taken else (place, moment)


def all_ways(net, place, moment):
    """All ways from the place at the moment: (way, leaving or None, where to, coming)."""
    steps = plain_steps(net)
    found = []
    open_ways = [((), None, place, moment)]
    while open_ways:
        way, leaving, here, now = open_ways.pop()
        found.append((way, leaving, here, now))
        for number, start, to, begin, end in steps:
            if start == here and begin >= now:
                open_ways.append((way + (number,), begin if leaving is None else leaving, to, end))
    return found


def earliest_of_all_ways(net, place, moment):
    ways = all_ways(net, place, moment)
    return tuple(min([come for _, _, to, come in ways if to == other], default=None) for other in range(net[0]))


def latest_of_all_ways(net, place, moment):
    told = []
    for one in range(net[0]):
        leaves = [leave for _, leave, to, come in all_ways(net, one, 0)
                  if leave is not None and to == place and come <= moment]
        told.append(moment if one == place else max(leaves, default=None))
    return tuple(told)


def earliest_again_and_again(net, place, moment):
    row = [None] * net[0]
    row[place] = moment
    changed = True
    while changed:
        changed = False
        for _, start, to, begin, end in plain_steps(net):
            if row[start] is not None and row[start] <= begin and (row[to] is None or row[to] > end):
                row[to] = end
                changed = True
    return tuple(row)


def latest_again_and_again(net, place, moment):
    row = [None] * net[0]
    row[place] = moment
    changed = True
    while changed:
        changed = False
        for _, start, to, begin, end in plain_steps(net):
            if row[to] is not None and row[to] >= end and (row[start] is None or row[start] < begin):
                row[start] = begin
                changed = True
    return tuple(row)


def right_row(net, thing):
    return type(thing) is tuple and len(thing) == net[0] and not [
        part for part in thing if part is not None and type(part) is not int]


def right_floor(net, place, moment, thing):
    if not right_row(net, thing) or thing[place] is None or thing[place] > moment:
        return False
    open_steps = [step for step in plain_steps(net) if thing[step[1]] is not None and thing[step[1]] <= step[3]]
    return not [step for step in open_steps if thing[step[2]] is None or thing[step[2]] > step[4]]


def right_ceiling(net, place, moment, thing):
    if not right_row(net, thing) or thing[place] is None or thing[place] < moment:
        return False
    open_steps = [step for step in plain_steps(net) if thing[step[2]] is not None and thing[step[2]] >= step[4]]
    return not [step for step in open_steps if thing[step[1]] is None or thing[step[1]] < step[3]]


def right_early_paper(net, place, moment, other, thing):
    if type(thing) is not tuple or not thing:
        return False
    if same(thing[0], "never"):
        return len(thing) == 2 and right_floor(net, place, moment, thing[1]) and thing[1][other] is None
    if not same(thing[0], "comes") or len(thing) != 3 or gone(net, place, moment, thing[1]) is None:
        return False
    if not right_floor(net, place, moment, thing[2]):
        return False
    return end_of_way(net, place, moment, thing[1]) == (other, thing[2][other])


def right_late_paper(net, one, place, moment, thing):
    if type(thing) is not tuple or not thing:
        return False
    if same(thing[0], "never"):
        return len(thing) == 2 and right_ceiling(net, place, moment, thing[1]) and thing[1][one] is None
    if not same(thing[0], "leaves") or len(thing) != 3 or not right_ceiling(net, place, moment, thing[2]):
        return False
    taken = gone(net, one, 0, thing[1])
    if taken is None:
        return False
    if not taken:
        return one == place and thing[2][one] == moment
    return taken[-1][2] == place and taken[-1][4] <= moment and taken[0][3] == thing[2][one]


def unbeaten(found):
    """Of all (leave, come) those that no other one beats, rising."""
    found = set(found)
    return tuple(sorted(
        pair for pair in found
        if not [1 for leave, come in found if leave >= pair[0] and come <= pair[1] and (leave, come) != pair]))


def pairs_of_all_ways(net, one, other):
    return unbeaten(
        (leave, come) for _, leave, to, come in all_ways(net, one, 0) if leave is not None and to == other)


def begins_at(net, one, moment):
    """When steps from the one place begin, from the moment on, each once."""
    return sorted({step[3] for step in plain_steps(net) if step[1] == one and step[3] >= moment})


def pairs_again_and_again(net, one):
    """For each place the pairs from the one place to it."""
    rows = [(leave, earliest_again_and_again(net, one, leave)) for leave in begins_at(net, one, 0)]
    return [unbeaten((leave, row[other]) for leave, row in rows if row[other] is not None) for other in range(net[0])]


def least_of(pairs, moment):
    return min([come - leave for leave, come in pairs if leave >= moment], default=None)


def fewest_of_all_ways(net, place, moment, other, by):
    ways = all_ways(net, place, moment)
    return min([len(way) for way, _, to, come in ways if to == other and come <= by], default=None)


def fewest_by_standings(net, place, moment, other, by):
    """The fewest meetings, by where and when one can stand behind just so many."""
    steps = plain_steps(net)
    standings = {(place, moment)}
    seen = set(standings)
    count = 0
    while standings:
        if [now for here, now in standings if here == other and now <= by]:
            return count
        standings = {(step[2], step[4]) for here, now in standings for step in steps
                     if step[1] == here and step[3] >= now} - seen
        seen |= standings
        count += 1
    return None


def right_time_paper(net, one, moment, other, thing):
    if type(thing) is not tuple or not thing:
        return False
    if same(thing[0], "never"):
        return len(thing) == 2 and right_floor(net, one, moment, thing[1]) and thing[1][other] is None
    if not same(thing[0], "takes") or len(thing) != 3 or type(thing[2]) is not tuple:
        return False
    taken = gone(net, one, moment, thing[1])
    if not taken or taken[-1][2] != other:
        return False
    if [part for part in thing[2] if type(part) is not tuple or len(part) != 2]:
        return False
    if not same([part[0] for part in thing[2]], begins_at(net, one, moment)):
        return False
    for begin, floor in thing[2]:
        if not right_floor(net, one, begin, floor):
            return False
        if floor[other] is not None and floor[other] - begin < taken[-1][4] - taken[0][3]:
            return False
    return True


def right_meets_paper(net, place, moment, other, by, thing):
    if type(thing) is not tuple or not thing:
        return False
    if same(thing[0], "never"):
        return len(thing) == 2 and right_floor(net, place, moment, thing[1]) and (
            thing[1][other] is None or thing[1][other] > by)
    if not same(thing[0], "meets") or len(thing) != 3 or gone(net, place, moment, thing[1]) is None:
        return False
    to, come = end_of_way(net, place, moment, thing[1])
    rows = thing[2]
    if to != other or come > by or type(rows) is not tuple or len(rows) != len(thing[1]):
        return False
    if [row for row in rows if not right_row(net, row)]:
        return False
    for at, row in enumerate(rows):
        bars = [(place, moment)] if at == 0 else [(to, end) for to, end in enumerate(rows[at - 1]) if end is not None]
        if at > 0:
            bars += [(to, end) for _, start, to, begin, end in plain_steps(net)
                     if rows[at - 1][start] is not None and rows[at - 1][start] <= begin]
        if [1 for to, end in bars if row[to] is None or row[to] > end]:
            return False
    return not rows or rows[-1][other] is None or rows[-1][other] > by


def right_reach_paper(net, one, other, thing):
    if type(thing) is not tuple or [type(part) for part in thing] != [tuple, tuple]:
        return False
    rows, floors = thing
    if len(floors) != len(rows) + 1:
        return False
    ahead = (-1, -1)
    for row in rows:
        if type(row) is not tuple or [type(part) for part in row] != [int, int, tuple]:
            return False
        taken = gone(net, one, 0, row[2])
        if not taken or (taken[0][3], taken[-1][2], taken[-1][4]) != (row[0], other, row[1]):
            return False
        if row[0] <= ahead[0] or row[1] <= ahead[1]:
            return False
        ahead = row
    for at, floor in enumerate(floors):
        if not right_floor(net, one, rows[at - 1][0] + 1 if at > 0 else 0, floor):
            return False
        if floor[other] is not None and (at == len(rows) or floor[other] < rows[at][1]):
            return False
    return True


def waits_of(net, place, moment, way):
    """How long each of the way's meetings is waited for."""
    waits = []
    for _, _, _, begin, end in gone(net, place, moment, way):
        waits.append(begin - moment)
        moment = end
    return waits


def waiting_of_all_ways(net, place, moment, bound):
    ways = [way for way in all_ways(net, place, moment) if max(waits_of(net, place, moment, way[0]), default=0) <= bound]
    return tuple(min([come for _, _, to, come in ways if to == other], default=None) for other in range(net[0]))


def waiting_by_standings(net, place, moment, bound):
    """The least comings, by where and when one can stand behind any let way."""
    ahead = [(place, moment)]
    seen = set(ahead)
    while ahead:
        here, now = ahead.pop()
        for _, start, to, begin, end in plain_steps(net):
            if start == here and 0 <= begin - now <= bound and (to, end) not in seen:
                seen.add((to, end))
                ahead.append((to, end))
    return tuple(min([now for here, now in seen if here == other], default=None) for other in range(net[0]))


def right_wait_steps(net, place, moment, bound, thing):
    """Whether the thing is a tuple some as point 21 tells, of pairs of steps."""
    if type(thing) is not tuple or [1 for part in thing if type(part) is not tuple]:
        return False
    if [1 for part in thing if [type(number) for number in part] != [int, int]]:
        return False
    steps = {(step[0], step[1]): step for step in plain_steps(net)}
    if [1 for part in thing if part not in steps] or [1 for one, two in zip(thing, thing[1:]) if one >= two]:
        return False
    for here, now in [(place, moment)] + [(steps[part][2], steps[part][4]) for part in thing]:
        if [1 for step in steps.values() if step[1] == here and now <= step[3] <= now + bound and step[:2] not in thing]:
            return False
    return True


def right_wait_paper(net, place, moment, other, bound, thing):
    if type(thing) is not tuple or not thing or not right_wait_steps(net, place, moment, bound, thing[-1]):
        return False
    ends = [end for number, start, to, _, end in plain_steps(net) if to == other and (number, start) in thing[-1]]
    if same(thing[0], "never"):
        return len(thing) == 2 and place != other and not ends
    if not same(thing[0], "comes") or len(thing) != 3 or gone(net, place, moment, thing[1]) is None:
        return False
    if max(waits_of(net, place, moment, thing[1]), default=0) > bound or (place == other and thing[1]):
        return False
    to, come = end_of_way(net, place, moment, thing[1])
    return to == other and not [end for end in ends if end < come]


def takings_again_and_again(net, hands):
    """What point 22 tells, each place's least taking made anew of the row until nothing changes."""
    row = [None] * net[0]
    while True:
        made = []
        for place in range(net[0]):
            may = [(moment, hand, -1) for hand, (start, moment) in enumerate(hands) if start == place]
            may += [(end, row[start][1], number) for number, start, to, begin, end in plain_steps(net)
                    if to == place and row[start] is not None and row[start][0] <= begin]
            made.append(min(may, default=None))
        if made == row:
            return tuple(row)
        row = made


def takings_of_all_ways(net, hands):
    """When each place is come to at the soonest by a way of any hand."""
    rows = [earliest_of_all_ways(net, place, moment) for place, moment in hands]
    return [min([row[place] for row in rows if row[place] is not None], default=None) for place in range(net[0])]


def ways_by(net, place, moment, other, by):
    """All ways that come to the other place by then."""
    return [way for way, _, to, come in all_ways(net, place, moment) if to == other and come <= by]


def least_of_sets(sets):
    """The sets of which no other one is a part, each once."""
    found = []
    for one in sorted(set(map(frozenset, sets)), key=lambda one: (len(one), sorted(one))):
        if not [other for other in found if other <= one]:
            found.append(one)
    return found


def most_unshared(sets):
    """How many of the sets at most share nothing."""
    most = 0
    for at, one in enumerate(sets):
        rest = [other for other in sets[at + 1:] if not one & other]
        if len(rest) + 1 > most:
            most = max(most, 1 + most_unshared(rest))
    return most


def fewest_hitting(sets, things):
    """The first of the fewest of the rising things, as tuples are compared, that hit each set; None where none do."""
    for count in range(len(things) + 1):
        for chosen in itertools.combinations(things, count):
            if not [one for one in sets if not one & set(chosen)]:
                return chosen
    return None


def inner_of(net, place, other):
    return [inner for inner in range(net[0]) if inner not in (place, other)]


def inner_sets_of_all_ways(net, place, moment, other, by):
    """The inner places of each way that comes to the other place by then, of which none can be spared."""
    sets = []
    for way in ways_by(net, place, moment, other, by):
        on = {place} | {step[2] for step in gone(net, place, moment, way)}
        sets.append(on - {place, other})
    return least_of_sets(sets)


def comes_without(net, place, moment, other, by, lost):
    """Whether some way comes to the other place by then and to none of the lost ones."""
    kept = tuple(meeting for meeting in net[1] if meeting[1] not in lost and meeting[2] not in lost)
    come = earliest_again_and_again((net[0], kept), place, moment)[other]
    return come is not None and come <= by


def inner_sets_of_all_places(net, place, moment, other, by):
    """As above, by all sets of inner places."""
    inner = inner_of(net, place, other)
    sets = []
    for count in range(len(inner) + 1):
        for kept in itertools.combinations(inner, count):
            if not [one for one in sets if one <= set(kept)]:
                if comes_without(net, place, moment, other, by, set(inner) - set(kept)):
                    sets.append(frozenset(kept))
    return sets


def right_way_by(net, place, moment, other, by, thing):
    if gone(net, place, moment, thing) is None:
        return False
    to, come = end_of_way(net, place, moment, thing)
    return to == other and come <= by


def right_rising(many, thing):
    if type(thing) is not tuple or [part for part in thing if type(part) is not int]:
        return False
    return list(thing) == sorted(set(thing)) and not [part for part in thing if part < 0 or part >= many]


def right_parted(net, place, moment, other, by, thing):
    if type(thing) is not tuple or len(thing) != 3 or type(thing[0]) is not tuple:
        return False
    ways, lost, floor = thing
    if not right_rising(len(net[1]), lost) or len(lost) != len(ways):
        return False
    if [way for way in ways if not right_way_by(net, place, moment, other, by, way)]:
        return False
    if [1 for one, two in itertools.combinations(ways, 2) if set(one) & set(two)]:
        return False
    kept = tuple(meeting for number, meeting in enumerate(net[1]) if number not in lost)
    return right_floor((net[0], kept), place, moment, floor) and (floor[other] is None or floor[other] > by)


def right_lost_paper(net, place, moment, other, by, thing):
    if type(thing) is not tuple or len(thing) != 3 or type(thing[2]) is not tuple:
        return False
    lost, floor, ways = thing
    if not right_rising(net[0], lost) or place in lost or other in lost:
        return False
    kept = tuple(meeting for meeting in net[1] if meeting[1] not in lost and meeting[2] not in lost)
    if not right_floor((net[0], kept), place, moment, floor) or (floor[other] is not None and floor[other] <= by):
        return False
    fewer = list(itertools.combinations(inner_of(net, place, other), len(lost) - 1)) if lost else []
    if len(ways) != len(fewer):
        return False
    for shunned, way in zip(fewer, ways):
        if not right_way_by(net, place, moment, other, by, way):
            return False
        if {step[2] for step in gone(net, place, moment, way)} & set(shunned):
            return False
    return True


def all_pairs_of(net):
    """The pairs of any two unlike places, by (one, other), those that have none left out."""
    found = {}
    for one in range(net[0]):
        for other, pairs in enumerate(pairs_again_and_again(net, one)):
            if one != other and pairs:
                found[one, other] = pairs
    return found


def all_asks_of(net, top):
    """For all two places and all moments to the top who can come where from when till when."""
    return {
        (place, moment, other): come for place in range(net[0]) for moment in range(top + 1)
        for other, come in enumerate(earliest_of_all_ways(net, place, moment))}


def plain_of_pairs(net):
    """The plain form, each pair held against all two others."""
    pairs = all_pairs_of(net)
    kept = []
    for (one, other), told in pairs.items():
        for leave, come in told:
            made = [
                1 for third in range(net[0]) for first in pairs.get((one, third), ()) if first[0] >= leave
                for second in pairs.get((third, other), ()) if second[0] >= first[1] and second[1] <= come]
            if not made:
                kept.append(("to", one, other, leave, come - leave))
    return net[0], tuple(sorted(kept))


def thinned_by_pairs(net):
    """The numbers that stay, what stays held against the whole net each time."""
    pairs = all_pairs_of(net)
    stay = list(range(len(net[1])))
    for number in range(len(net[1]) - 1, -1, -1):
        fewer = [kept for kept in stay if kept != number]
        if all_pairs_of((net[0], tuple(net[1][kept] for kept in fewer))) == pairs:
            stay = fewer
    return tuple(stay)


def right_alike_paper(one, other, thing):
    if type(thing) is not tuple or not thing:
        return False
    if same(thing[0], "alike"):
        if [type(part) for part in thing] != [str, tuple, tuple]:
            return False
        for told, steps, net in ((thing[1], plain_steps(one), other), (thing[2], plain_steps(other), one)):
            if len(told) != len(steps):
                return False
            for way, (_, start, to, begin, end) in zip(told, steps):
                if not right_way_by(net, start, begin, to, end, way):
                    return False
        return True
    if not same(thing[0], "parts") or len(thing) != 5:
        return False
    which, ask, way, floor = thing[1:]
    if not (same(which, 0) or same(which, 1)) or type(ask) is not tuple or [type(part) for part in ask] != [int] * 4:
        return False
    place, moment, to, by = ask
    if min(ask) < 0 or max(place, to) >= one[0] or not right_way_by((one, other)[which], *ask, way):
        return False
    return right_floor((other, one)[which], place, moment, floor) and (floor[to] is None or floor[to] > by)


# --- nets ------------------------------------------------------------------------------------------------------


def some_net(dice, many, count, span, longest, words=("to", "both"), shift=0):
    """A net of so many places and meetings that begin from shift to shift and span."""
    meetings = []
    while len(meetings) < count and many > 1:
        if meetings and dice.random() < 0.1:
            meetings.append(dice.choice(meetings))
            continue
        one, other = dice.sample(range(many), 2)
        begin = shift + dice.randint(0, span)
        meetings.append((dice.choice(words), one, other, begin, dice.randint(1, longest)))
    return many, tuple(meetings)


def chain(many, word, order):
    """A net whose meetings touch one another, place by place, told in the order."""
    return many, tuple((word, at, at + 1, 2 * at, 2) for at in order)


def small_nets():
    """Nets so small that all their ways can be gone through."""
    dice = random.Random(11)
    nets = [(1, ()), (2, ()), (3, ())]
    for round_ in range(120):
        many = 1 + round_ % 5
        count = dice.randint(0, 7)
        nets.append(some_net(dice, many, count, dice.choice((0, 3, 8)), dice.choice((1, 3, 6))))
    return nets


def great_nets():
    """Nets of up to ten places and forty meetings."""
    dice = random.Random(12)
    nets = []
    for round_ in range(40):
        many = dice.randint(2, 10)
        span = dice.choice((0, 5, 40, FAR - 1))
        longest = dice.choice((1, 2, 9, FAR))
        nets.append(some_net(dice, many, dice.randint(20, 40), span, longest))
    nets.append(some_net(dice, 10, 40, 30, 5, shift=FAR - 40))
    nets.append(chain(10, "to", range(9)))
    nets.append(chain(10, "to", range(8, -1, -1)))
    nets.append(chain(10, "both", (4, 0, 8, 2, 6, 1, 7, 3, 5)))
    nets.append((3, (("both", 0, 1, 5, 2),) * 20 + (("both", 1, 2, 7, 1),) * 20))
    nets.append((10, tuple(("both", at % 10, (at + 3) % 10, 7, 1) for at in range(40))))
    return nets


def read_nets():
    """Nets that were read of their texts: moments of forty figures, and a chain of forty meetings."""
    dice = random.Random(20)
    nets = [
        some_net(dice, 10, 40, 30, 6, shift=FORTY), some_net(dice, 6, 40, 12, 3, shift=10 * FORTY - 20),
        some_net(dice, 4, 12, FORTY, FORTY), chain(41, "to", range(40)), chain(41, "both", range(39, -1, -1)),
    ]
    return [read_net(show_net(net)) for net in nets]


# Ways from 0 to 4 come to 1 and 2, to 1 and 3, or to 2 and 3: any two share a place, no place is on all of them.
UNSHARED = ((0, 1, 0), (1, 2, 1), (2, 4, 2), (0, 2, 3), (2, 3, 4), (3, 4, 5), (1, 3, 1))


def places_nets():
    """Nets of ten places without a straight meeting of 0 and 9, in which fewer ways may be apart than places lost."""
    dice = random.Random(21)
    nets = []
    for round_ in range(90):
        meetings = []
        for _ in range(round_ % 4):
            named = (0, *dice.sample(range(1, 9), 3), 9)
            slow, shift = dice.choice((1, 2, 3)), dice.choice((0, 1, 4))
            meetings += [("to", named[one], named[other], begin * slow + shift, 1) for one, other, begin in UNSHARED]
        for _ in range(dice.randint(6, 12)):
            one, other = sorted(dice.sample(range(10), 2), key=lambda place: (place == 9, place != 0, dice.random()))
            if (one, other) != (0, 9):
                meetings.append((dice.choice(("to", "both")), one, other, dice.randint(0, 20), dice.randint(1, 3)))
        dice.shuffle(meetings)
        nets.append((10, tuple(meetings)))
    return nets


def put_otherwise(dice, net):
    """An alike net: another order, both as two, slower meetings more, alike ones, some that ways make."""
    meetings = []
    for word, one, other, begin, long in net[1]:
        if word == "both" and dice.random() < 0.5:
            meetings += [("to", one, other, begin, long), ("to", other, one, begin, long)]
        elif word == "both" and dice.random() < 0.5:
            meetings.append(("both", other, one, begin, long))
        else:
            meetings.append((word, one, other, begin, long))
    for word, one, other, begin, long in list(meetings):
        if dice.random() < 0.3:
            sooner, later = dice.choice(((0, 0), (0, 1), (1, 0), (2, 3)))
            sooner = min(sooner, begin)
            meetings.append((dice.choice((word, "to")), one, other, begin - sooner, long + sooner + later))
        if dice.random() < 0.3:
            # On from where this one led: what the two make together.
            further = [step for step in plain_steps(net) if step[1] == other and step[3] >= begin + long and step[2] != one]
            meetings += [("to", one, step[2], begin, step[4] - begin) for step in further[:1]]
    dice.shuffle(meetings)
    return net[0], tuple(meetings)


def lowered(dice, row):
    """The row with some numbers less."""
    return tuple(number if number is None else number - dice.choice((0, 0, 1, 2, 50)) for number in row)


def raised(dice, row):
    """The row with some numbers more."""
    return tuple(number if number is None else number + dice.choice((0, 0, 1, 2, 50)) for number in row)


def moments_of(net):
    """Moments to ask at: begins and ends, one off, 0, 10 ** 13."""
    told = {0, FAR}
    for _, _, _, begin, long in net[1]:
        for moment in (begin, begin + long):
            told |= {moment - 1, moment, moment + 1}
    return sorted(moment for moment in told if moment >= 0)


def some_of(dice, things, count):
    """So many of the things, or all."""
    things = list(things)
    return things if len(things) <= count else dice.sample(things, count)
