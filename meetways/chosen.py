"""Some of several, in each order that rises."""


def rising_tuples(things, count):
    """Tell all rising tuples of so many of the rising things, as tuples are compared; none of fewer than 0."""
    if count < 0:
        return []
    found = [()]
    for behind in range(count):
        found = [(*chosen, thing) for chosen in found for thing in things if len(chosen) == 0 or chosen[-1] < thing]
    return found
