"""Nets written in lines, and read back."""

from meetways.errors import NoText
from meetways.nets import is_meeting
from meetways.wholes import figures_of, number_of


def show_meeting(meeting):
    """Write the line of a meeting."""
    word, *numbers = meeting
    figures = [figures_of(number) for number in numbers]
    return " ".join([word, *figures])


def show_net(net):
    """Write the net's text."""
    many, meetings = net
    lines = ["places " + figures_of(many)]
    for meeting in meetings:
        lines.append(show_meeting(meeting))
    return "\n".join(lines)


def read_many(line):
    """Read how many places there are off the first line."""
    words = line.split(" ")
    if len(words) != 2 or words[0] != "places":
        raise NoText("the first line does not tell the places")
    many = number_of(words[1])
    if many is None or many < 1:
        raise NoText("the first line does not tell 1 place or more")
    return many


def read_meeting(many, line):
    """Read a meeting of so many places off its line."""
    word, *rest = line.split(" ")
    numbers = [number_of(figures) for figures in rest]
    meeting = (word, *numbers)
    if not is_meeting(many, meeting):
        raise NoText("a line does not tell a meeting of these places")
    return meeting


def read_net(text):
    """Read the net that the text writes; refuse all else with NoText."""
    if not isinstance(text, str):
        raise NoText("this is no text")
    head, *rest = text.split("\n")
    many = read_many(head)
    return many, tuple([read_meeting(many, line) for line in rest])
