"""A stand: meetings told late and struck out, asks, and what was known when."""

from meetways.earliest import comings
from meetways.errors import NoMoment, NoNumber
from meetways.kept import Kept
from meetways.wholes import is_number_below, is_whole


def answer_of(net, place, moment, other):
    """Tell the least moment at which a way from the place at the moment comes to the other one, or None."""
    came, last = comings(net, place, moment)
    return came.get(other)


class Stand:
    """The meetings of so many places that stand at a moment, all asks so far, and the net behind each deed."""

    def __init__(self, many):
        """Begin at 0, with no meeting."""
        self.kept = Kept(many)
        self.moment = 0
        self.told_late = {}
        self.asks = []
        self.nets = [self.kept.whole_net()]

    def tell(self, meeting):
        """Let the meeting stand from now on; tell its number, or refuse it with NoMeeting."""
        number = self.kept.put(meeting)
        word, one, other, begin, long = meeting
        self.told_late[number] = begin < self.moment
        self.nets.append(self.kept.whole_net())
        return number

    def strike(self, number):
        """Let the meeting of this number stand no more, or refuse the number with NoNumber."""
        self.kept.drop(number)
        self.nets.append(self.kept.whole_net())

    def go_on(self, moment):
        """Go on to the moment, or refuse it with NoMoment where it is below the stand's."""
        if not is_whole(moment) or moment < self.moment:
            raise NoMoment("this is no moment from the stand's on")
        self.moment = moment

    def ask(self, place, moment, other):
        """Tell (number, answer): the earliest by the meetings that stand, a moment or None."""
        answer = answer_of(self.net(), place, moment, other)
        self.asks.append((place, moment, other, answer))
        return len(self.asks) - 1, answer

    def said(self, number):
        """Tell (place, moment, other, answer) of the ask of this number, or refuse the number with NoNumber."""
        if not is_number_below(len(self.asks), number):
            raise NoNumber("no ask has this number")
        return self.asks[number]

    def turned(self):
        """Tell the numbers of all asks that would be answered otherwise now, rising."""
        net = self.net()
        found = []
        for number, (place, moment, other, answer) in enumerate(self.asks):
            if answer_of(net, place, moment, other) != answer:
                found.append(number)
        return tuple(found)

    def late(self):
        """Tell the numbers of the meetings that stand and began below the stand's moment when told, rising."""
        return tuple([number for number in self.standing() if self.told_late[number]])

    def deeds(self):
        """Tell how many tellings and strikings were done."""
        return len(self.nets) - 1

    def known(self, count):
        """Tell the net of the meetings that stood behind so many deeds, or refuse the count with NoNumber."""
        if not is_number_below(len(self.nets), count):
            raise NoNumber("there were not so many deeds")
        return self.nets[count]

    def net(self):
        """Tell the net of the meetings that stand, in the order of their numbers."""
        return self.nets[-1]

    def standing(self):
        """Tell the numbers of the meetings that stand, rising."""
        return self.kept.numbers()
