"""Tables of the pairs of any two places, kept while meetings are told late and struck out."""

from meetways.kept import Kept
from meetways.reach import all_pairs


def changed_between(ahead, behind):
    """Tell all (one, other), rising, whose pairs are not the same in the two dicts."""
    return tuple([
        two for two in sorted(set(ahead) | set(behind)) if ahead.get(two, ()) != behind.get(two, ())])


class Tables:
    """The meetings of so many places that stand, by their numbers, and the pairs by them."""

    def __init__(self, many):
        """Begin with no meeting."""
        self.kept = Kept(many)
        self.pairs = {}

    def tell(self, meeting):
        """Let the meeting stand from now on; tell (number, changed), or refuse it with NoMeeting."""
        number = self.kept.put(meeting)
        return number, self.made_anew()

    def strike(self, number):
        """Let the meeting of this number stand no more; tell changed, or refuse the number with NoNumber."""
        self.kept.drop(number)
        return self.made_anew()

    def table(self, one, other):
        """Tell the pairs of the one place and the other one by the meetings that stand."""
        return self.pairs.get((one, other), ())

    def standing(self):
        """Tell (number, meeting) of each that stands, rising."""
        return tuple([(number, self.kept.at(number)) for number in self.kept.numbers()])

    def made_anew(self):
        """Make the tables of the meetings that stand; tell all (one, other) whose pairs changed by this."""
        ahead = self.pairs
        self.pairs = all_pairs(self.kept.whole_net())
        return changed_between(ahead, self.pairs)
