"""The most ways that share no meeting, and as few meetings whose loss parts the two places."""

from meetways.earliest import earliest, early_way
from meetways.narrow import net_of, numbers_back, numbers_but
from meetways.nets import steps_of


def rows_of_meetings(net, place, moment, other, by):
    """Tell the meetings that can be a way's first, those that can be its last, and those that can follow each.

    A meeting that is gone into and out of at one place is but a wait there: such rows are let, and make ways still.
    """
    steps = steps_of(net)
    firsts = {number: True for number, start, to, begin, end in steps if start == place and begin >= moment}
    lasts = {number: True for number, start, to, begin, end in steps if to == other and end <= by}
    follows = {number: {} for number, start, to, begin, end in steps}
    for number, start, to, begin, end in steps:
        for further, further_start, further_to, further_begin, further_end in steps:
            if further_start == to and further_begin >= end:
                follows[number][further] = True
    return firsts, lasts, follows


def states_behind(follows, ahead, state):
    """Tell the states that one more way can go on to from a state (meeting, whether it is gone).

    Where the meeting is another way's, the one more takes that way's end over, and that way is gone back along.
    """
    number, gone = state
    if gone:
        behind = [(further, False) for further in follows[number]]
        if number in ahead:
            behind.append((number, False))
        return behind
    if number not in ahead:
        return [(number, True)]
    if ahead[number] is None:
        return []
    return [(ahead[number], True)]


def one_more(rows, ahead):
    """Tell how each state is come to that one more way can come to, and the state by which it is there, or None."""
    firsts, lasts, follows = rows
    came = {(number, False): None for number in firsts}
    waiting = list(came)
    while waiting:
        state = waiting.pop()
        number, gone = state
        if gone and number in lasts:
            return came, state
        for further in states_behind(follows, ahead, state):
            if further not in came:
                came[further] = state
                waiting.append(further)
    return came, None


def put_in(ahead, came, state):
    """Put one more way, that came to this state, among those of which it is told what is ahead of each meeting."""
    while state is not None:
        number, gone = state
        before = came[state]
        if not gone:
            if before is None:
                ahead[number] = None
            elif before[0] == number:
                del ahead[number]
            else:
                ahead[number] = before[0]
        state = before


def row_to(ahead, number):
    """Tell the meetings of the way that ends by the meeting of this number."""
    numbers = []
    while number is not None:
        numbers.append(number)
        number = ahead[number]
    return tuple(reversed(numbers))


def parted_rows(rows):
    """Tell as many rows of meetings as can be that share none, and the meetings that no more can get beyond."""
    ahead = {}
    ends = []
    came, state = one_more(rows, ahead)
    while state is not None:
        put_in(ahead, came, state)
        ends.append(state[0])
        came, state = one_more(rows, ahead)
    lost = [number for number, gone in came if not gone and (number, True) not in came]
    return [row_to(ahead, end) for end in ends], tuple(sorted(lost))


def parted(net, place, moment, other, by):
    """Tell (ways, lost, floor): ways that share no meeting, as many lost meetings, a floor without these."""
    rows, lost = parted_rows(rows_of_meetings(net, place, moment, other, by))
    ways = [numbers_back(row, early_way(net_of(net, row), place, moment, other)) for row in rows]
    floor = earliest(net_of(net, numbers_but(net, lost)), place, moment)
    return tuple(ways), lost, floor
