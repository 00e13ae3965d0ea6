"""Ways that wait only so long: when they come to each place."""

from meetways.earliest import begin_of_step
from meetways.nets import row_of, steps_of


def let_comings(net, place, moment, bound):
    """Tell all comings of let ways, and the step ahead of each step (number, from) that such ways go by.

    The comings are (when, the step by which) for each place that is come to, in the order of the steps' begins; the
    step is None for who has not gone yet. It is not the soonest coming alone that counts: who comes sooner may have
    to let the next meeting go.
    """
    comes = {place: [(moment, None)]}
    ahead = {}
    # As each step lasts, whatever ends by a step's begin began before it: one pass by begins is enough.
    for number, start, to, begin, end in sorted(steps_of(net), key=begin_of_step):
        fitting = [step for come, step in comes.get(start, []) if come <= begin <= come + bound]
        if fitting:
            ahead[(number, start)] = fitting[0]
            comes.setdefault(to, []).append((end, (number, start)))
    return comes, ahead


def waiting(net, place, moment, bound):
    """Tell for each place the least moment at which a way that is let comes to it, None where none does."""
    comes, ahead = let_comings(net, place, moment, bound)
    return row_of(net, {other: min([come for come, step in comes[other]]) for other in comes})
