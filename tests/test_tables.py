"""Point 19: tables that are kept."""

import copy
import random
import unittest

import helper
from meetways.errors import NoMeeting, NoNumber
from meetways.nettexts import read_net
from meetways.reach import reach
from meetways.tables import Tables

MEETINGS = (
    ("to", 0, 1, 0, 2), ("to", 1, 2, 2, 5), ("both", 0, 2, 4, 6), ("to", 0, 1, 5, 1), ("to", 1, 2, 9, 1))


def all_of(tables, many):
    """All that the tables tell: what stands, and each table."""
    told = {(one, other): tables.table(one, other) for one in range(many) for other in range(many) if one != other}
    return tables.standing(), told


class Kept:
    """Tables beside the meetings that stand, told over again."""

    def __init__(self, test, many, pairs_of):
        self.test = test
        self.many = many
        self.pairs_of = pairs_of
        self.tables = Tables(many)
        self.standing = {}
        self.count = 0
        self.pairs = self.at_once()

    def at_once(self):
        net = (self.many, tuple(self.standing[number] for number in sorted(self.standing)))
        found = {}
        for one in range(self.many):
            for other, pairs in enumerate(self.pairs_of(net, one)):
                if one != other:
                    found[one, other] = pairs
        return found

    def check(self, changed):
        ahead, self.pairs = self.pairs, self.at_once()
        right = tuple(sorted(two for two in ahead if ahead[two] != self.pairs[two]))
        self.test.assertTrue(helper.same(changed, right), (changed, right))
        standing = tuple(sorted(self.standing.items()))
        self.test.assertTrue(helper.same(self.tables.standing(), standing), (self.tables.standing(), standing))
        self.test.assertTrue(helper.same(all_of(self.tables, self.many)[1], self.pairs))

    def tell(self, meeting):
        told = self.tables.tell(meeting)
        self.test.assertIs(type(told), tuple)
        self.test.assertTrue(helper.same(told[0], self.count))
        self.standing[self.count] = meeting
        self.count += 1
        self.check(told[1])

    def strike(self, number):
        changed = self.tables.strike(number)
        del self.standing[number]
        self.check(changed)

    def refused(self, kind, deed, thing):
        """The deed is refused with just this class, and changes nothing."""
        before = all_of(self.tables, self.many)
        kept = copy.deepcopy(thing)
        with self.test.assertRaises(kind) as caught:
            deed(thing)
        self.test.assertIs(type(caught.exception), kind)
        self.test.assertTrue(helper.same(thing, kept))
        self.test.assertTrue(helper.same(all_of(self.tables, self.many), before))

    def no_meeting(self, thing):
        self.refused(NoMeeting, self.tables.tell, thing)

    def no_number(self, thing):
        self.refused(NoNumber, self.tables.strike, thing)


def pairs_by_all_ways(net, one):
    return [helper.pairs_of_all_ways(net, one, other) for other in range(net[0])]


class Tellings(unittest.TestCase):
    def test_by_hand(self):
        tables = Tables(4)
        self.assertEqual(tables.standing(), ())
        self.assertEqual(tables.table(0, 1), ())
        self.assertEqual(tables.tell(MEETINGS[0]), (0, ((0, 1),)))
        self.assertEqual(tables.tell(MEETINGS[1]), (1, ((0, 2), (1, 2))))
        self.assertEqual(tables.tell(MEETINGS[2]), (2, ((0, 2), (2, 0))))
        self.assertEqual(tables.table(0, 2), ((0, 7), (4, 10)))
        self.assertEqual(tables.tell(MEETINGS[3]), (3, ((0, 1),)))
        self.assertEqual(tables.tell(MEETINGS[4]), (4, ((0, 2), (1, 2))))
        self.assertEqual(tables.table(0, 2), ((0, 7), (5, 10)))
        self.assertEqual(tables.strike(2), ((2, 0),))
        self.assertEqual(tables.strike(0), ((0, 1), (0, 2)))
        self.assertEqual(tables.standing(), ((1, MEETINGS[1]), (3, MEETINGS[3]), (4, MEETINGS[4])))
        self.assertEqual(tables.table(0, 2), ((5, 10),))
        self.assertEqual(tables.table(2, 0), ())
        self.assertEqual(tables.tell(MEETINGS[0]), (5, ((0, 1), (0, 2))))
        self.assertEqual(tables.table(0, 3), ())

    def test_told_again(self):
        kept = Kept(self, 3, pairs_by_all_ways)
        meeting = ("both", 0, 2, 4, 6)
        for number in range(3):
            self.assertEqual(kept.tables.standing(), tuple((at, meeting) for at in range(number)))
            kept.tell(meeting)
        self.assertEqual(kept.tables.strike(1), ())
        del kept.standing[1]
        kept.tell(meeting)
        self.assertEqual(kept.tables.standing(), ((0, meeting), (2, meeting), (3, meeting)))
        kept.strike(0)
        kept.strike(3)
        self.assertEqual(kept.tables.strike(2), ((0, 2), (2, 0)))

    def test_numbers_are_used_once(self):
        tables = Tables(2)
        for number in range(60):
            self.assertEqual(tables.tell(("to", 0, 1, 3, 1)), (number, ((0, 1),)))
            self.assertEqual(tables.strike(number), ((0, 1),))
            self.assertEqual(tables.standing(), ())

    def test_rows_of_deeds_in_small_nets(self):
        dice = random.Random(40)
        for round_ in range(25):
            kept = Kept(self, 2 + round_ % 4, pairs_by_all_ways)
            for _ in range(25):
                if kept.standing and (len(kept.standing) > 6 or dice.random() < 0.4):
                    kept.strike(dice.choice(sorted(kept.standing)))
                else:
                    kept.tell(helper.some_net(dice, kept.many, 1, 9, 3)[1][0])

    def test_rows_of_deeds_in_great_nets(self):
        dice = random.Random(41)
        for net in (
            helper.some_net(dice, 10, 40, 30, 5), helper.some_net(dice, 10, 40, helper.FAR, helper.FAR),
            helper.chain(10, "both", range(8, -1, -1)), helper.read_nets()[0], helper.some_net(dice, 6, 30, 0, 2),
        ):
            kept = Kept(self, net[0], helper.pairs_again_and_again)
            for meeting in net[1][:24]:
                kept.tell(meeting)
                if dice.random() < 0.4:
                    kept.strike(dice.choice(sorted(kept.standing)))

    def test_made_at_once_of_those_that_stand(self):
        dice = random.Random(42)
        tables = Tables(10)
        for _ in range(160):
            standing = tables.standing()
            if len(standing) == 40 or (standing and dice.random() < 0.3):
                tables.strike(dice.choice(standing)[0])
            else:
                tables.tell(helper.some_net(dice, 10, 1, 40, 6)[1][0])
        standing = tables.standing()
        self.assertGreater(len(standing), 30)
        net = (10, tuple(meeting for number, meeting in standing))
        afresh = Tables(10)
        for _, meeting in standing[::-1]:
            afresh.tell(meeting)
        for (one, other), pairs in all_of(tables, 10)[1].items():
            self.assertEqual((reach(net, one, other), afresh.table(one, other)), (pairs, pairs))

    def test_two_beside_one_another(self):
        first, second = Kept(self, 3, pairs_by_all_ways), Kept(self, 3, pairs_by_all_ways)
        first.tell(("to", 0, 1, 0, 2))
        second.tell(("both", 1, 2, 5, 2))
        first.tell(("to", 1, 2, 2, 2))
        self.assertEqual(second.tables.table(0, 1), ())
        second.strike(0)
        self.assertEqual(first.tables.table(0, 2), ((0, 4),))
        first.strike(0)
        second.tell(("to", 0, 2, 1, 1))
        self.assertEqual(first.tables.standing(), ((1, ("to", 1, 2, 2, 2)),))
        self.assertEqual(second.tables.standing(), ((1, ("to", 0, 2, 1, 1)),))

    def test_the_same_is_told_the_same(self):
        tables = Tables(4)
        for meeting in MEETINGS:
            tables.tell(meeting)
        self.assertTrue(helper.same(all_of(tables, 4), all_of(tables, 4)))
        for told in (tables.standing(), tables.standing()[0], tables.table(0, 2), tables.table(0, 2)[0]):
            self.assertIs(type(told), tuple)
        self.assertIs(type(tables.table(2, 1)), tuple)
        self.assertIs(type(tables.strike(4)), tuple)
        self.assertIs(type(tables.tell(MEETINGS[4])[1]), tuple)

    def test_however_great(self):
        far = read_net("places 3\nboth 0 1 " + "6" * 1900 + " " + "7" * 1900)[1][0]
        tables = Tables(3)
        self.assertEqual(tables.tell(far), (0, ((0, 1), (1, 0))))
        self.assertEqual(tables.table(1, 0), ((far[3], far[3] + far[4]),))
        self.assertEqual(tables.tell(("to", 1, 2, 10 ** 39, 10 ** 39)), (1, ((1, 2),)))
        self.assertEqual(tables.tell(("to", 1, 2, far[3] + far[4], 1)), (2, ((0, 2), (1, 2))))
        self.assertEqual(tables.standing()[0], (0, far))

    def test_places_too_many_to_go_through(self):
        net = read_net("places " + "9" * 50 + "\nto 3 4 0 1\nto 4 " + "8" * 50 + " 1 1")
        tables = Tables(net[0])
        self.assertEqual(tables.tell(net[1][0]), (0, ((3, 4),)))
        self.assertEqual(tables.tell(net[1][1]), (1, ((3, net[1][1][2]), (4, net[1][1][2]))))
        self.assertEqual(tables.table(3, net[1][1][2]), ((0, 2),))
        self.assertEqual(tables.strike(0), ((3, 4), (3, net[1][1][2])))


class Refusals(unittest.TestCase):
    def some_kept(self):
        kept = Kept(self, 4, pairs_by_all_ways)
        for meeting in MEETINGS:
            kept.tell(meeting)
        kept.strike(1)
        return kept

    def test_each_clause_of_a_meeting_broken(self):
        kept = self.some_kept()
        for thing in (
            ("To", 0, 1, 0, 1), ("from", 0, 1, 0, 1), ("", 0, 1, 0, 1), (None, 0, 1, 0, 1), (0, 0, 1, 0, 1),
            ("to", 1, 1, 0, 1), ("to", -1, 1, 0, 1), ("to", 0, 4, 0, 1), ("to", 4, 0, 0, 1), ("to", 0, -1, 0, 1),
            ("to", 0, 1, -1, 1), ("to", 0, 1, 0, 0), ("to", 0, 1, 0, -1), ("to", False, 1, 0, 1), ("to", 0, True, 0, 1),
            ("to", 0, 1, False, 1), ("to", 0, 1, 0, True), ("to", "0", 1, 0, 1), ("to", 0, 1, None, 1), ("to", 0, 1, 0),
            ("to", 0, 1, 0, 1, 1), ["to", 0, 1, 0, 1], "to 0 1 0 1", (), None, True, 0, {}, {"to": 0}, (("to", 0, 1, 0, 1),),
        ):
            kept.no_meeting(thing)
        kept.tell(("to", 0, 1, 0, 1))

    def test_things_of_other_kinds(self):
        kept = self.some_kept()
        for thing in helper.ODD_THINGS:
            kept.no_meeting(thing)
            if not (helper.whole(thing) and thing in kept.standing):
                kept.no_number(thing)
        for thing in helper.near(("both", 1, 2, 5, 1)):
            if not helper.right_meeting(4, thing):
                kept.no_meeting(thing)
        kept.tell(("both", 1, 2, 5, 1))
        self.assertEqual(kept.count, 6)

    def test_numbers_of_none_that_stands(self):
        kept = self.some_kept()
        for thing in (
            1, 5, 6, -1, -2, 40, helper.FORTY, True, False, None, "0", "", "strike", (), (0,), [], [0], {}, {0: 0}, (0, 2),
            MEETINGS[0],
        ):
            kept.no_number(thing)
        for number in (0, 2, 3, 4):
            kept.strike(number)
            kept.no_number(number)
        for number in range(6):
            kept.no_number(number)

    def test_of_none_told_yet(self):
        kept = Kept(self, 2, pairs_by_all_ways)
        for thing in (0, 1, -1, None, True, False):
            kept.no_number(thing)
        kept.tell(("to", 0, 1, 0, 1))
        kept.no_number(False)

    def test_one_more_than_forty(self):
        meetings = [("to", 0, 1, 3 * at, 5) for at in range(41)]
        kept = Kept(self, 2, helper.pairs_again_and_again)
        for meeting in meetings[:40]:
            kept.tell(meeting)
        for thing in (meetings[40], meetings[0], ("both", 0, 1, 0, 1), ("to", 0, 0, 0, 1), None, []):
            kept.no_meeting(thing)
        kept.strike(17)
        kept.tell(meetings[40])
        self.assertEqual(kept.tables.standing()[-1], (40, meetings[40]))
        kept.no_meeting(meetings[17])
        kept.strike(40)
        kept.strike(0)
        kept.tell(meetings[17])
        kept.tell(meetings[17])
        self.assertEqual(kept.count, 43)
        kept.no_meeting(meetings[17])

    def test_one_place_alone(self):
        kept = Kept(self, 1, pairs_by_all_ways)
        for thing in (("to", 0, 0, 0, 1), ("to", 0, 1, 0, 1), ("both", 1, 0, 0, 1)):
            kept.no_meeting(thing)
        kept.no_number(0)


if __name__ == "__main__":
    unittest.main()
