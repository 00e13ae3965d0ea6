"""Whole numbers: what they are, and how they are written in figures."""

FIGURES = "0123456789"


def is_whole(thing):
    """Tell whether the thing is an int that is no truth."""
    return isinstance(thing, int) and not isinstance(thing, bool)


def is_number_below(many, thing):
    """Tell whether the thing is one of the whole numbers from 0 to many less 1."""
    return is_whole(thing) and 0 <= thing < many


def is_row_of(many, thing):
    """Tell whether the thing is a tuple with a whole number or None for each of so many places."""
    if not isinstance(thing, tuple) or len(thing) != many:
        return False
    return all(part is None or is_whole(part) for part in thing)


def is_rising_below(many, thing):
    """Tell whether the thing is a tuple of whole numbers from 0 to many less 1, rising."""
    if not isinstance(thing, tuple) or not all(is_number_below(many, part) for part in thing):
        return False
    return all(part < further for part, further in zip(thing, thing[1:]))


def figures_of(number):
    """Write a whole number from 0 in figures."""
    if number == 0:
        return "0"
    figures = []
    # Python's own str refuses numbers of some thousand figures.
    while number > 0:
        number, low = divmod(number, 10)
        figures.append(FIGURES[low])
    return "".join(reversed(figures))


def is_figures(word):
    """Tell whether the text is a number as it is written: figures alone, no noughts ahead."""
    if word == "" or (word[0] == "0" and word != "0"):
        return False
    return all(sign in FIGURES for sign in word)


def number_of(word):
    """Read a number as it is written; None where the text is none."""
    if not is_figures(word):
        return None
    number = 0
    # Python's own int refuses texts of some thousand figures.
    for figure in word:
        number = number * 10 + FIGURES.index(figure)
    return number
