"""Point 29: a stand."""

import copy
import random
import unittest

import helper
from meetways.earliest import earliest
from meetways.errors import MeetError, NoMeeting, NoMoment, NoNumber
from meetways.nets import is_net
from meetways.nettexts import read_net, show_net
from meetways.plain import plain
from meetways.stand import Stand

MEETINGS = (
    ("to", 0, 1, 0, 2), ("to", 1, 2, 2, 5), ("both", 0, 2, 4, 6), ("to", 0, 1, 5, 1), ("to", 1, 2, 9, 1))


def all_of(stand, asks):
    """All that the stand tells, of so many asks."""
    return (
        stand.deeds(), [stand.known(count) for count in range(stand.deeds() + 1)], stand.net(), stand.standing(),
        stand.late(), stand.turned(), [stand.said(number) for number in range(asks)])


class Watched:
    """A stand beside a plain list of what was done."""

    def __init__(self, test, many):
        self.test = test
        self.many = many
        self.stand = Stand(many)
        self.now = 0
        self.done = []
        self.asks = []

    def standing_behind(self, count):
        """(number, meeting, late) of each that stood behind so many deeds."""
        standing, told = {}, 0
        for word, thing, late in self.done[:count]:
            if word == "tell":
                standing[told] = (told, thing, late)
                told += 1
            else:
                del standing[thing]
        return [standing[number] for number in sorted(standing)]

    def net_behind(self, count):
        return self.many, tuple(meeting for _, meeting, _ in self.standing_behind(count))

    def answer(self, place, moment, other):
        return helper.earliest_again_and_again(self.net_behind(len(self.done)), place, moment)[other]

    def check(self):
        standing = self.standing_behind(len(self.done))
        nets = [self.net_behind(count) for count in range(len(self.done) + 1)]
        turned = [at for at, (place, moment, other, said) in enumerate(self.asks)
                  if self.answer(place, moment, other) != said]
        right = (
            len(self.done), nets, nets[-1], tuple(number for number, _, _ in standing),
            tuple(number for number, _, late in standing if late), tuple(turned), self.asks)
        told = all_of(self.stand, len(self.asks))
        self.test.assertTrue(helper.same(told, right), (told, right))

    def tell(self, meeting):
        number = len([1 for word, _, _ in self.done if word == "tell"])
        self.test.assertTrue(helper.same(self.stand.tell(meeting), number))
        self.done.append(("tell", meeting, meeting[3] < self.now))

    def strike(self, number):
        self.test.assertIsNone(self.stand.strike(number))
        self.done.append(("strike", number, None))

    def go_on(self, moment):
        self.test.assertIsNone(self.stand.go_on(moment))
        self.now = moment

    def ask(self, place, moment, other):
        answer = self.answer(place, moment, other)
        self.test.assertTrue(helper.same(self.stand.ask(place, moment, other), (len(self.asks), answer)))
        self.asks.append((place, moment, other, answer))

    def refused(self, kind, deed, thing):
        """The deed is refused with just this class, and changes nothing."""
        before = all_of(self.stand, len(self.asks))
        kept = copy.deepcopy(thing)
        with self.test.assertRaises(kind) as caught:
            deed(thing)
        self.test.assertIs(type(caught.exception), kind)
        self.test.assertIsInstance(caught.exception, MeetError)
        self.test.assertTrue(helper.same(thing, kept))
        self.test.assertTrue(helper.same(all_of(self.stand, len(self.asks)), before))

    def no_meeting(self, thing):
        self.refused(NoMeeting, self.stand.tell, thing)

    def some_deed(self, dice, net):
        """Any deed, of a meeting of the net."""
        deed = dice.random()
        standing = [number for number, _, _ in self.standing_behind(len(self.done))]
        if deed < 0.45 and len(standing) < 40:
            self.tell(dice.choice(net[1]))
        elif deed < 0.65 and standing:
            self.strike(dice.choice(standing))
        elif deed < 0.75:
            self.go_on(dice.choice([moment for moment in helper.moments_of(net) + [self.now] if moment >= self.now][:4]))
        else:
            moment = dice.choice(helper.moments_of(net)[:len(net[1])])
            self.ask(dice.randrange(self.many), moment, dice.randrange(self.many))


class Deeds(unittest.TestCase):
    def test_by_hand(self):
        stand = Stand(4)
        self.assertEqual(all_of(stand, 0), (0, [(4, ())], (4, ()), (), (), (), []))
        self.assertEqual(stand.tell(MEETINGS[0]), 0)
        self.assertEqual(stand.ask(0, 0, 2), (0, None))
        self.assertEqual(stand.ask(3, 7, 3), (1, 7))
        self.assertEqual(stand.turned(), ())
        self.assertEqual(stand.tell(MEETINGS[1]), 1)
        self.assertEqual(stand.turned(), (0,))
        self.assertEqual(stand.ask(0, 0, 2), (2, 7))
        self.assertIsNone(stand.go_on(5))
        self.assertEqual(stand.tell(MEETINGS[2]), 2)
        self.assertEqual(stand.tell(MEETINGS[3]), 3)
        self.assertEqual(stand.late(), (2,))
        self.assertEqual(stand.ask(0, 1, 2), (3, 10))
        self.assertIsNone(stand.strike(1))
        self.assertEqual(stand.turned(), (0, 2))
        self.assertEqual(stand.said(0), (0, 0, 2, None))
        self.assertEqual(stand.said(2), (0, 0, 2, 7))
        self.assertEqual(stand.deeds(), 5)
        self.assertEqual(stand.standing(), (0, 2, 3))
        self.assertEqual(stand.net(), (4, (MEETINGS[0], MEETINGS[2], MEETINGS[3])))
        self.assertEqual(stand.known(2), (4, MEETINGS[:2]))
        self.assertEqual(stand.known(4), (4, MEETINGS[:4]))
        self.assertEqual(stand.known(5), stand.net())
        self.assertEqual(stand.tell(MEETINGS[1]), 4)
        self.assertEqual(stand.turned(), (0,))
        self.assertEqual(stand.late(), (2, 4))
        self.assertIsNone(stand.strike(2))
        self.assertEqual(stand.late(), (4,))
        self.assertEqual(stand.turned(), (0, 3))

    def test_what_is_late(self):
        watched = Watched(self, 2)
        for moment, begins in ((0, (0, 5)), (5, (4, 5, 6)), (5, (0, 5)), (9, (8, 9)), (helper.FORTY, (9, helper.FORTY))):
            watched.go_on(moment)
            for begin in begins:
                watched.tell(("both", 0, 1, begin, 3))
            watched.check()
        self.assertEqual(watched.stand.late(), (2, 5, 7, 9))
        # Late is told of the moment of the telling, whatever ends then or is struck since.
        watched.go_on(10 * helper.FORTY)
        self.assertEqual(watched.stand.late(), (2, 5, 7, 9))
        watched.strike(5)
        self.assertEqual(watched.stand.late(), (2, 7, 9))

    def test_an_ask_that_turns_and_turns_back(self):
        watched = Watched(self, 3)
        watched.ask(0, 0, 1)
        watched.tell(("to", 0, 1, 4, 2))
        watched.ask(0, 0, 1)
        self.assertEqual(watched.stand.turned(), (0,))
        watched.tell(("to", 0, 1, 1, 1))
        self.assertEqual(watched.stand.turned(), (0, 1))
        watched.strike(0)
        self.assertEqual(watched.stand.turned(), (0, 1))
        watched.tell(("to", 0, 1, 3, 3))
        watched.strike(1)
        self.assertEqual(watched.stand.turned(), (0,))
        watched.strike(2)
        self.assertEqual(watched.stand.turned(), (1,))
        watched.check()

    def test_an_ask_answered_alike_by_other_ways_has_not_turned(self):
        watched = Watched(self, 3)
        watched.tell(("to", 0, 1, 0, 4))
        watched.ask(0, 0, 1)
        watched.tell(("to", 0, 2, 0, 1))
        watched.tell(("to", 2, 1, 1, 3))
        watched.strike(0)
        self.assertEqual(watched.stand.turned(), ())
        watched.check()

    def test_rows_of_deeds_in_small_nets(self):
        dice = random.Random(75)
        for net in helper.small_nets():
            if net[1]:
                watched = Watched(self, net[0])
                for _ in range(25):
                    watched.some_deed(dice, net)
                    if dice.random() < 0.3:
                        watched.check()
                watched.check()

    def test_rows_of_deeds_in_great_nets(self):
        dice = random.Random(76)
        for net in helper.great_nets()[::5] + helper.read_nets()[:3]:
            watched = Watched(self, net[0])
            for _ in range(70):
                watched.some_deed(dice, net)
            watched.check()

    def test_two_beside_one_another(self):
        dice = random.Random(77)
        first, second = Watched(self, 3), Watched(self, 3)
        net = helper.some_net(dice, 3, 12, 9, 3)
        for _ in range(40):
            dice.choice((first, second)).some_deed(dice, net)
        first.check()
        second.check()

    def test_the_same_is_told_the_same(self):
        stand = Stand(4)
        for meeting in MEETINGS:
            stand.tell(meeting)
        stand.ask(0, 0, 2)
        stand.go_on(4)
        stand.strike(1)
        stand.tell(MEETINGS[0])
        told = all_of(stand, 1)
        self.assertTrue(helper.same(all_of(stand, 1), told))
        for part in (
            stand.net(), stand.net()[1], stand.standing(), stand.late(), stand.turned(), stand.said(0), stand.known(0),
            stand.known(3)[1], stand.ask(0, 0, 1),
        ):
            self.assertIs(type(part), tuple)

    def test_nets_that_were_known_may_be_handed_in_again(self):
        dice = random.Random(78)
        net = helper.read_nets()[0]
        watched = Watched(self, net[0])
        for _ in range(50):
            watched.some_deed(dice, net)
        for count in range(watched.stand.deeds() + 1):
            known = watched.stand.known(count)
            self.assertIs(is_net(known), True)
            self.assertEqual(read_net(show_net(known)), known)
            self.assertEqual(plain(plain(known)), plain(known))

    def test_however_great(self):
        far = read_net("places 3\nboth 0 1 " + "6" * 1900 + " " + "7" * 1900)[1][0]
        watched = Watched(self, 3)
        watched.tell(far)
        watched.go_on(far[3])
        watched.tell(far)
        watched.go_on(far[3] + 1)
        watched.tell(far)
        watched.ask(0, far[3], 1)
        watched.ask(0, far[3] + 1, 1)
        watched.check()
        self.assertEqual(watched.stand.late(), (2,))
        self.assertEqual(watched.stand.said(0)[3], far[3] + far[4])
        watched.refused(NoMoment, watched.stand.go_on, far[3])
        watched.go_on(far[3] + 1)

    def test_many_deeds(self):
        watched = Watched(self, 2)
        for number in range(60):
            watched.tell(("to", 0, 1, number, 1))
            watched.strike(number)
        watched.check()
        self.assertEqual((watched.stand.deeds(), watched.stand.standing()), (120, ()))

    def test_one_place_alone(self):
        watched = Watched(self, 1)
        watched.ask(0, 3, 0)
        for thing in (("to", 0, 0, 0, 1), ("to", 0, 1, 0, 1), ("both", 1, 0, 0, 1)):
            watched.no_meeting(thing)
        watched.check()

    def test_asks_answer_the_earliest(self):
        net = helper.great_nets()[0]
        stand = Stand(net[0])
        for meeting in net[1]:
            stand.tell(meeting)
        for place in range(net[0]):
            for other in range(net[0]):
                self.assertEqual(stand.ask(place, 0, other)[1], earliest(net, place, 0)[other])


class Refusals(unittest.TestCase):
    def some_watched(self):
        watched = Watched(self, 4)
        for meeting in MEETINGS:
            watched.tell(meeting)
        watched.ask(0, 0, 2)
        watched.strike(1)
        watched.go_on(6)
        watched.tell(MEETINGS[1])
        watched.ask(0, 0, 1)
        return watched

    def unmoved(self, watched):
        """The stand's moment is still as it was: by what is late, and by what is refused."""
        watched.tell(("to", 0, 1, watched.now - 1, 1))
        watched.tell(("to", 0, 1, watched.now, 1))
        watched.check()
        watched.refused(NoMoment, watched.stand.go_on, watched.now - 1)
        watched.go_on(watched.now)
        watched.check()

    def test_each_clause_of_a_meeting_broken(self):
        watched = self.some_watched()
        for thing in (
            ("To", 0, 1, 0, 1), ("from", 0, 1, 0, 1), ("", 0, 1, 0, 1), (None, 0, 1, 0, 1), (0, 0, 1, 0, 1),
            ("to", 1, 1, 0, 1), ("to", -1, 1, 0, 1), ("to", 0, 4, 0, 1), ("to", 4, 0, 0, 1), ("to", 0, -1, 0, 1),
            ("to", 0, 1, -1, 1), ("to", 0, 1, 0, 0), ("to", 0, 1, 0, -1), ("to", False, 1, 0, 1), ("to", 0, True, 0, 1),
            ("to", 0, 1, False, 1), ("to", 0, 1, 0, True), ("to", "0", 1, 0, 1), ("to", 0, 1, None, 1), ("to", 0, 1, 0),
            ("to", 0, 1, 0, 1, 1), ["to", 0, 1, 0, 1], "to 0 1 0 1", (), None, True, 0, {}, {"to": 0}, (("to", 0, 1, 0, 1),),
        ):
            watched.no_meeting(thing)
        self.unmoved(watched)

    def test_things_of_other_kinds(self):
        watched = self.some_watched()
        stand = watched.stand
        for thing in helper.ODD_THINGS:
            watched.no_meeting(thing)
            if not (helper.whole(thing) and thing in (0, 2, 3, 4, 5)):
                watched.refused(NoNumber, stand.strike, thing)
            if not (helper.whole(thing) and thing in (0, 1)):
                watched.refused(NoNumber, stand.said, thing)
            if not (helper.whole(thing) and 0 <= thing <= 7):
                watched.refused(NoNumber, stand.known, thing)
            if not (helper.whole(thing) and thing >= 6):
                watched.refused(NoMoment, stand.go_on, thing)
        self.unmoved(watched)

    def test_no_moments(self):
        watched = self.some_watched()
        for thing in (5, 0, -1, -helper.FORTY, True, False, None, "7", "", (), (7,), [7], {}, {7: 7}):
            watched.refused(NoMoment, watched.stand.go_on, thing)
        self.unmoved(watched)
        fresh = Watched(self, 2)
        for thing in (-1, True, False, None, "0", [0], {0: 0}):
            fresh.refused(NoMoment, fresh.stand.go_on, thing)
        fresh.go_on(0)
        fresh.tell(("to", 0, 1, 0, 1))
        self.assertEqual(fresh.stand.late(), ())

    def test_no_numbers(self):
        watched = self.some_watched()
        stand = watched.stand
        odd = (-1, -2, True, False, None, "0", "", (), (0,), [], [0], {}, {0: 0}, helper.FORTY, "strike", MEETINGS[0])
        for thing in odd + (1, 6, 7, 40):
            watched.refused(NoNumber, stand.strike, thing)
        for thing in odd + (2, 3, 5):
            watched.refused(NoNumber, stand.said, thing)
        for thing in odd + (8, 9, 100):
            watched.refused(NoNumber, stand.known, thing)
        for number in (0, 2, 3, 4, 5):
            watched.strike(number)
            watched.refused(NoNumber, stand.strike, number)
        watched.check()
        self.assertEqual(stand.deeds(), 12)
        self.assertEqual(stand.known(12), (4, ()))

    def test_of_a_stand_where_nothing_was_done(self):
        watched = Watched(self, 3)
        for thing in (0, 1, -1, None, True, False):
            watched.refused(NoNumber, watched.stand.strike, thing)
            watched.refused(NoNumber, watched.stand.said, thing)
            if not helper.same(thing, 0):
                watched.refused(NoNumber, watched.stand.known, thing)
        watched.check()

    def test_one_more_than_forty(self):
        meetings = [("to", 0, 1, 3 * at, 5) for at in range(41)]
        watched = Watched(self, 2)
        for meeting in meetings[:40]:
            watched.tell(meeting)
        for thing in (meetings[40], meetings[0], ("both", 0, 1, 0, 1), ("to", 0, 0, 0, 1), None, []):
            watched.no_meeting(thing)
        watched.check()
        watched.strike(17)
        watched.tell(meetings[40])
        watched.no_meeting(meetings[17])
        watched.strike(40)
        watched.tell(meetings[17])
        watched.no_meeting(meetings[17])
        watched.check()
        self.assertEqual(watched.stand.standing()[-1], 41)
        self.assertEqual(watched.stand.deeds(), 44)


if __name__ == "__main__":
    unittest.main()
