"""Papers of the latest: a way, and a ceiling that shows that none leaves later."""

from meetways.latest import late_way, latest


def late_paper(net, one, place, moment):
    """Tell a paper of the latest from the one place to the place by the moment."""
    ceiling = latest(net, place, moment)
    way = late_way(net, one, place, moment)
    if way is None:
        return "never", ceiling
    return "leaves", way, ceiling
