"""The earliest comings from a place at a moment, and ways that come then."""

from meetways.nets import row_of, steps_of


def begin_of_step(step):
    """Tell when the step begins."""
    number, start, to, begin, end = step
    return begin


def comings(net, place, moment):
    """Tell the least moment for each place that is come to, and how: (last number, place ahead of it).

    Only places that are come to stand in the two dicts: a net that was read may have too many to go through.
    """
    came = {place: moment}
    last = {}
    # As each step lasts, whatever ends by a step's begin began before it: one pass by begins is enough.
    for number, start, to, begin, end in sorted(steps_of(net), key=begin_of_step):
        if start in came and came[start] <= begin and (to not in came or end < came[to]):
            came[to] = end
            last[to] = (number, start)
    return came, last


def earliest(net, place, moment):
    """Tell for each place the least moment at which a way comes to it, None where none does."""
    came, last = comings(net, place, moment)
    return row_of(net, came)


def early_way(net, place, moment, other):
    """Tell a way that comes to the other place at the least moment, None where none comes."""
    came, last = comings(net, place, moment)
    if other not in came:
        return None
    numbers = []
    here = other
    while here in last:
        number, here = last[here]
        numbers.append(number)
    return tuple(reversed(numbers))
