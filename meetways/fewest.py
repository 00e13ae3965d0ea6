"""The fewest meetings by which a place is come to by a moment, and papers of them."""

from meetways.earliest import earliest
from meetways.floors import is_by
from meetways.nets import row_of, steps_of


def one_more(steps, came):
    """Tell the comings by at most one meeting more, and how the sooner ones are: (last number, place ahead)."""
    sooner = dict(came)
    last = {}
    for number, start, to, begin, end in steps:
        if start in came and came[start] <= begin and (to not in sooner or end < sooner[to]):
            sooner[to] = end
            last[to] = (number, start)
    return sooner, last


def layers_until(net, place, moment, other, by):
    """Tell the comings by at most 0, 1, 2 .. meetings up to the first that come to the other by then, or None.

    Only places that are come to stand in the dicts: a net that was read may have too many to go through.
    """
    steps = steps_of(net)
    came = {place: moment}
    layers = [(came, {})]
    while not is_by(came.get(other), by):
        came, last = one_more(steps, came)
        if not last:
            return None
        layers.append((came, last))
    return layers


def way_through(layers, other):
    """Tell the way of one meeting for each layer behind the first that the layers hold for the other place."""
    numbers = []
    here = other
    # With fewer meetings none comes in time, so each place on the way was come to sooner in just its layer.
    for came, last in reversed(layers[1:]):
        number, here = last[here]
        numbers.append(number)
    return tuple(reversed(numbers))


def fewest(net, place, moment, other, by):
    """Tell how many meetings a way at least has that comes to the other place by then, None where none does."""
    layers = layers_until(net, place, moment, other, by)
    if layers is None:
        return None
    return len(layers) - 1


def few_way(net, place, moment, other, by):
    """Tell a way of the fewest meetings that comes to the other place by then, None where none does."""
    layers = layers_until(net, place, moment, other, by)
    if layers is None:
        return None
    return way_through(layers, other)


def meets_paper(net, place, moment, other, by):
    """Tell a paper of the fewest meetings from the place at the moment to the other one by then."""
    layers = layers_until(net, place, moment, other, by)
    if layers is None:
        return "never", earliest(net, place, moment)
    rows = [row_of(net, came) for came, last in layers[:-1]]
    return "meets", way_through(layers, other), tuple(rows)
