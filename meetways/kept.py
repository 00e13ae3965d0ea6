"""Meetings that are kept by numbers, told and struck out."""

from meetways.errors import NoMeeting, NoNumber
from meetways.nets import is_meeting
from meetways.wholes import is_whole

MOST = 40


class Kept:
    """The meetings of so many places that stand, by their numbers, each of which is used once."""

    def __init__(self, many):
        """Begin with no meeting."""
        self.many = many
        self.meetings = {}
        self.next_number = 0

    def put(self, meeting):
        """Let the meeting stand; tell its number, or refuse it with NoMeeting."""
        if not is_meeting(self.many, meeting):
            raise NoMeeting("this is no meeting of these places")
        if len(self.meetings) >= MOST:
            raise NoMeeting("no more meetings than those that stand can stand")
        number = self.next_number
        self.next_number = number + 1
        self.meetings[number] = meeting
        return number

    def drop(self, number):
        """Let the meeting of this number stand no more, or refuse the number with NoNumber."""
        if not is_whole(number) or number not in self.meetings:
            raise NoNumber("no meeting that stands has this number")
        del self.meetings[number]

    def numbers(self):
        """Tell the numbers of the meetings that stand, rising."""
        return tuple(sorted(self.meetings))

    def at(self, number):
        """Tell the meeting that stands by this number."""
        return self.meetings[number]

    def whole_net(self):
        """Tell the net of the meetings that stand, in the order of their numbers."""
        return self.many, tuple([self.meetings[number] for number in self.numbers()])
