"""Tables of the pairs of any two places, kept while meetings are told late and struck out."""

from meetways.errors import NoMeeting, NoNumber
from meetways.nets import is_meeting
from meetways.reach import all_pairs
from meetways.wholes import is_whole

MOST = 40


def changed_between(ahead, behind):
    """Tell all (one, other), rising, whose pairs are not the same in the two dicts."""
    return tuple([
        two for two in sorted(set(ahead) | set(behind)) if ahead.get(two, ()) != behind.get(two, ())])


class Tables:
    """The meetings of so many places that stand, by their numbers, and the pairs by them."""

    def __init__(self, many):
        """Begin with no meeting."""
        self.many = many
        self.meetings = {}
        self.next_number = 0
        self.pairs = {}

    def tell(self, meeting):
        """Let the meeting stand from now on; tell (number, changed), or refuse it with NoMeeting."""
        if not is_meeting(self.many, meeting):
            raise NoMeeting("this is no meeting of these places")
        if len(self.meetings) >= MOST:
            raise NoMeeting("no more meetings than those that stand can stand")
        number = self.next_number
        self.next_number = number + 1
        self.meetings[number] = meeting
        return number, self.made_anew()

    def strike(self, number):
        """Let the meeting of this number stand no more; tell changed, or refuse the number with NoNumber."""
        if not is_whole(number) or number not in self.meetings:
            raise NoNumber("no meeting that stands has this number")
        del self.meetings[number]
        return self.made_anew()

    def table(self, one, other):
        """Tell the pairs of the one place and the other one by the meetings that stand."""
        return self.pairs.get((one, other), ())

    def standing(self):
        """Tell (number, meeting) of each that stands, rising."""
        return tuple([(number, self.meetings[number]) for number in sorted(self.meetings)])

    def made_anew(self):
        """Make the tables of the meetings that stand; tell all (one, other) whose pairs changed by this."""
        ahead = self.pairs
        self.pairs = all_pairs((self.many, tuple([meeting for number, meeting in self.standing()])))
        return changed_between(ahead, self.pairs)
