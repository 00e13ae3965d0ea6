"""Whether two nets are alike: whether who can come where from when till when is the same in both."""

from meetways.earliest import comings, earliest, early_way
from meetways.errors import NotFit
from meetways.floors import is_by
from meetways.nets import steps_of


def can_do(net, step):
    """Tell whether some way of the net comes from where and when the step begins to where it leads by its end."""
    number, start, to, begin, end = step
    came, last = comings(net, start, begin)
    return is_by(came.get(to), end)


def step_missing(net, steps):
    """Tell the first of the steps that no way of the net can do, None where there is none."""
    for step in steps:
        if not can_do(net, step):
            return step
    return None


def ways_for(net, steps):
    """Tell for each step a way of the net that comes from where and when it begins to where it leads."""
    return tuple([early_way(net, start, begin, to) for number, start, to, begin, end in steps])


def refuse_unlike_many(one, other):
    """Refuse nets that do not have as many places."""
    if one[0] != other[0]:
        raise NotFit("the two nets do not have as many places")


def are_alike(one, other):
    """Tell whether the two nets are alike; nets of unlike many are refused with NotFit."""
    refuse_unlike_many(one, other)
    # What the steps of a net can do in the other one all its ways can, one step behind another.
    return step_missing(other, steps_of(one)) is None and step_missing(one, steps_of(other)) is None


def parts_paper(which, step, without):
    """Tell the paper of a step of the first (0) or second (1) net that no way of the net without it can do."""
    number, start, to, begin, end = step
    return "parts", which, (start, begin, to, end), (number,), earliest(without, start, begin)


def alike_paper(one, other):
    """Tell a paper that the two nets are alike, or that an ask parts them; unlike many are refused with NotFit."""
    refuse_unlike_many(one, other)
    step = step_missing(other, steps_of(one))
    if step is not None:
        return parts_paper(0, step, other)
    step = step_missing(one, steps_of(other))
    if step is not None:
        return parts_paper(1, step, one)
    return "alike", ways_for(other, steps_of(one)), ways_for(one, steps_of(other))
