"""The latest leavings to come to a place by a moment, and ways that leave then."""

from meetways.nets import row_of, steps_of


def end_of_step(step):
    """Tell when the step ends."""
    number, start, to, begin, end = step
    return end


def leavings(net, place, moment):
    """Tell the greatest moment for each place that can be left, and how: (first number, place behind it).

    Only places that can be left stand in the two dicts: a net that was read may have too many to go through.
    """
    left = {place: moment}
    first = {}
    # As each step lasts, whatever begins from a step's end on ends behind it: one pass by ends is enough.
    for number, start, to, begin, end in sorted(steps_of(net), key=end_of_step, reverse=True):
        if to in left and end <= left[to] and (start not in left or left[start] < begin):
            left[start] = begin
            first[start] = (number, to)
    return left, first


def latest(net, place, moment):
    """Tell for each place the greatest moment at which a way to the place by the moment leaves it, or None."""
    left, first = leavings(net, place, moment)
    return row_of(net, left)


def late_way(net, one, place, moment):
    """Tell a way from the one place that leaves at the greatest moment, None where none comes by then."""
    left, first = leavings(net, place, moment)
    if one not in left:
        return None
    numbers = []
    here = one
    while here in first:
        number, here = first[here]
        numbers.append(number)
    return tuple(numbers)
