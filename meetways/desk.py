"""A desk: a stand that is told and asked by rows of words."""

from meetways.deskrows import net_in_a_row, or_never, or_none, read_hands, read_numbers, read_said_meeting, taking_word
from meetways.errors import NoRow
from meetways.fewest import fewest
from meetways.latest import latest
from meetways.nets import WORDS
from meetways.parting import parted
from meetways.plain import plain
from meetways.reach import reach
from meetways.spreading import spread
from meetways.stand import Stand
from meetways.times import least_time
from meetways.waiting import waiting
from meetways.wholes import figures_of


def say_strike(stand, numbers):
    """Strike the meeting of the number."""
    stand.strike(numbers[0])
    return "ok"


def say_go(stand, numbers):
    """Go on to the moment."""
    stand.go_on(numbers[0])
    return "ok"


def say_ask(stand, numbers):
    """Ask, and answer the ask's number and the moment."""
    place, moment, other = numbers
    number, answer = stand.ask(place, moment, other)
    return figures_of(number) + " " + or_never(answer)


def say_said(stand, numbers):
    """Answer what was asked and answered then."""
    place, moment, other, answer = stand.said(numbers[0])
    return or_none([figures_of(place), figures_of(moment), figures_of(other), or_never(answer)])


def say_turned(stand, numbers):
    """Answer the numbers of the asks that turned."""
    return or_none([figures_of(number) for number in stand.turned()])


def say_late(stand, numbers):
    """Answer the numbers of the late meetings."""
    return or_none([figures_of(number) for number in stand.late()])


def say_known(stand, numbers):
    """Answer the net that was known behind so many deeds."""
    return net_in_a_row(stand.known(numbers[0]))


def say_show(stand, numbers):
    """Answer the net of the meetings that stand."""
    return net_in_a_row(stand.net())


def say_plain(stand, numbers):
    """Answer the plain form of that net."""
    return net_in_a_row(plain(stand.net()))


def say_leave(stand, numbers):
    """Answer the latest from the one place to the other by the moment."""
    one, other, moment = numbers
    return or_never(latest(stand.net(), other, moment)[one])


def say_time(stand, numbers):
    """Answer the least time."""
    one, moment, other = numbers
    return or_never(least_time(stand.net(), one, moment, other))


def say_meets(stand, numbers):
    """Answer the fewest meetings."""
    one, moment, other, by = numbers
    return or_never(fewest(stand.net(), one, moment, other, by))


def say_wait(stand, numbers):
    """Answer the least moment with this bound of waits."""
    one, moment, other, bound = numbers
    return or_never(waiting(stand.net(), one, moment, bound)[other])


def say_reach(stand, numbers):
    """Answer the pairs of the two places."""
    one, other = numbers
    pairs = reach(stand.net(), one, other)
    return or_none([figures_of(leave) + "-" + figures_of(come) for leave, come in pairs])


def say_part(stand, numbers):
    """Answer how many meetings at least are lost where the two places part."""
    one, moment, other, by = numbers
    ways, lost, floor = parted(stand.net(), one, moment, other, by)
    return figures_of(len(lost))


def say_spread(stand, hands):
    """Answer for each place when and by which hand it is taken."""
    return or_none([taking_word(taking) for taking in spread(stand.net(), hands)])


KINDS = {
    "strike": ("number",), "go": ("number",), "ask": ("place", "number", "place"), "said": ("number",), "turned": (),
    "late": (), "known": ("number",), "show": (), "plain": (), "leave": ("place", "place", "number"),
    "time": ("place", "number", "unlike"), "meets": ("place", "number", "place", "number"),
    "wait": ("place", "number", "place", "number"), "reach": ("place", "unlike"),
    "part": ("place", "number", "unlike", "number"),
}

ACTIONS = {
    "strike": say_strike, "go": say_go, "ask": say_ask, "said": say_said, "turned": say_turned, "late": say_late,
    "known": say_known, "show": say_show, "plain": say_plain, "leave": say_leave, "time": say_time,
    "meets": say_meets, "wait": say_wait, "reach": say_reach, "part": say_part,
}


class Desk:
    """A stand of so many places, and what is said to it in rows."""

    def __init__(self, many):
        """Begin with a stand of no meeting."""
        self.many = many
        self.stand = Stand(many)

    def say(self, text):
        """Do what the row says and answer it in a row; refuse what is no row with NoRow."""
        if not isinstance(text, str):
            raise NoRow("this is no text")
        word, *rest = text.split(" ")
        if word in WORDS:
            return figures_of(self.stand.tell(read_said_meeting(self.many, word, rest)))
        if word == "spread":
            return say_spread(self.stand, read_hands(self.many, rest))
        if word not in KINDS:
            raise NoRow("no row begins so")
        numbers = read_numbers(self.many, KINDS[word], rest)
        action = ACTIONS[word]
        return action(self.stand, numbers)
