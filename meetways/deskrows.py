"""The words of a desk's rows: what is said read, what is answered written."""

from meetways.errors import NoRow
from meetways.nets import is_meeting
from meetways.nettexts import show_net
from meetways.wholes import figures_of, number_of

GREATEST_SAID = 10 ** 13
MOST_HANDS = 6


def read_number(word):
    """Read a number that may be said; refuse all else with NoRow."""
    number = number_of(word)
    if number is None or number > GREATEST_SAID:
        raise NoRow("a word is no number that may be said")
    return number


def read_place(many, word):
    """Read one of so many places; refuse all else with NoRow."""
    place = read_number(word)
    if place >= many:
        raise NoRow("a number is no place's")
    return place


def read_numbers(many, kinds, words):
    """Read a number of each kind: "number", "place" or "unlike", a place that is not the first number; or NoRow."""
    if len(words) != len(kinds):
        raise NoRow("there are more or fewer words than in such a row")
    numbers = []
    for kind, word in zip(kinds, words):
        if kind == "number":
            numbers.append(read_number(word))
        else:
            numbers.append(read_place(many, word))
        if kind == "unlike" and numbers[-1] == numbers[0]:
            raise NoRow("the two places are alike")
    return tuple(numbers)


def read_said_meeting(many, word, words):
    """Read a meeting of so many places by its word and the words behind it; refuse all else with NoRow."""
    numbers = [read_number(figures) for figures in words]
    meeting = (word, *numbers)
    if not is_meeting(many, meeting):
        raise NoRow("this is no meeting of these places")
    return meeting


def read_hand(many, word):
    """Read (place, moment) of a hand; refuse all else with NoRow."""
    parts = word.split(":")
    return read_numbers(many, ("place", "number"), parts)


def read_hands(many, words):
    """Read one to six hands; refuse all else with NoRow."""
    if len(words) < 1 or len(words) > MOST_HANDS:
        raise NoRow("there are no hands, or too many")
    return tuple([read_hand(many, word) for word in words])


def or_never(number):
    """Write the number, or never where there is none."""
    if number is None:
        return "never"
    return figures_of(number)


def or_none(words):
    """Write the words with one blank between any two, or none where there are none."""
    if len(words) == 0:
        return "none"
    return " ".join(words)


def net_in_a_row(net):
    """Write the net's text in one row."""
    return show_net(net).replace("\n", " / ")


def taking_word(taking):
    """Write when a place is taken, and by which hand, or none where it is not."""
    if taking is None:
        return "none"
    moment, hand, number = taking
    return figures_of(moment) + ":" + figures_of(hand)
