"""Nets of some of a net's meetings alone."""


def net_of(net, numbers):
    """Tell the net of the meetings of these numbers alone, in this order."""
    many, meetings = net
    return many, tuple([meetings[number] for number in numbers])


def numbers_but(net, lost):
    """Tell the numbers of all meetings but the lost ones, rising."""
    many, meetings = net
    return tuple([number for number in range(len(meetings)) if number not in lost])


def numbers_around(net, places):
    """Tell the numbers of all meetings that lead neither from nor to one of the places, rising."""
    many, meetings = net
    kept = []
    for number, (word, one, other, begin, long) in enumerate(meetings):
        if one not in places and other not in places:
            kept.append(number)
    return tuple(kept)


def numbers_back(numbers, way):
    """Tell a way through the net of these numbers' meetings by the numbers that they have in the whole net."""
    return tuple([numbers[at] for at in way])
