"""Nets and ways turned about."""

from meetways.nets import end_of


def top_of(net):
    """Tell the greatest end of the net's meetings, 0 where there is none."""
    many, meetings = net
    return max([end_of(meeting) for meeting in meetings], default=0)


def turned_net(net, top):
    """Turn the net by a top that is no less than any end."""
    many, meetings = net
    turned = []
    for word, one, other, begin, long in meetings:
        turned.append((word, other, one, top - (begin + long), long))
    return many, tuple(turned)


def turned_way(way):
    """Tell the way's numbers from the last to the first."""
    return tuple(reversed(way))
