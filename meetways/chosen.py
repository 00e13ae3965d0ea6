"""Some of several: all choices of so many, in the order in which tuples are compared."""


def first_choice(many, count):
    """Tell the first rising tuple of so many numbers from 0 to many less 1, None where there is none."""
    if count < 0 or count > many:
        return None
    return tuple(range(count))


def next_choice(many, chosen):
    """Tell the next rising tuple of as many numbers from 0 to many less 1, None behind the last."""
    count = len(chosen)
    at = count - 1
    while at >= 0 and chosen[at] == many - count + at:
        at -= 1
    if at < 0:
        return None
    return chosen[:at] + tuple(range(chosen[at] + 1, chosen[at] + 1 + count - at))


def things_of(things, chosen):
    """Tell those of the things that stand where the choice says."""
    return tuple([things[at] for at in chosen])
