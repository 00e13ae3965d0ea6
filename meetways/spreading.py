"""What spreads from many hands at once: which hand takes each place, when, and by which meeting."""

from meetways.earliest import begin_of_step
from meetways.nets import row_of, steps_of

BEGINS = -1


def takings(net, hands):
    """Tell for each place that is taken (moment, hand, number), and the place ahead of each that is gone to.

    Only places that are taken stand in the two dicts: a net that was read may have too many to go through.
    """
    taken = {}
    ahead = {}
    for hand, (place, moment) in enumerate(hands):
        taken[place] = min(taken.get(place, (moment, hand, BEGINS)), (moment, hand, BEGINS))
    # As each step lasts, whatever takes a place by a step's begin began before it: one pass by begins is enough.
    for number, start, to, begin, end in sorted(steps_of(net), key=begin_of_step):
        if start in taken and taken[start][0] <= begin:
            taking = (end, taken[start][1], number)
            if to not in taken or taking < taken[to]:
                taken[to] = taking
                ahead[to] = start
    return taken, ahead


def spread(net, hands):
    """Tell for each place the least (moment, hand, number) that takes it, None where none does."""
    taken, ahead = takings(net, hands)
    return row_of(net, taken)


def spread_way(net, hands, place):
    """Tell the numbers by which the hand that takes the place came there, None where none does."""
    taken, ahead = takings(net, hands)
    if place not in taken:
        return None
    numbers = []
    here = place
    while here in ahead:
        numbers.append(taken[here][2])
        here = ahead[here]
    return tuple(reversed(numbers))
