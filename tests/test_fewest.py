"""Points 15 and 16: the fewest meetings, their papers, and the checker of these."""

import random
import unittest

import helper
from meetways.fewest import fewest, meets_paper
from meetways.meetchecks import meets_paper_holds
from meetways.nettexts import read_net

# To 3 come (4,) at 20, (0, 3) at 10, (0, 1, 2) and (0, 1, 5) at 6.
NET = (5, (
    ("to", 0, 1, 0, 2), ("to", 1, 2, 2, 2), ("to", 2, 3, 4, 2), ("both", 1, 3, 3, 7), ("to", 0, 3, 0, 20),
    ("to", 2, 3, 5, 1)))
ROWS = ((0, None, None, None, None), (0, 2, None, 20, None), (0, 2, 4, 10, None))
NEVER = (0, 2, 4, 6, None)


def with_row(at, row):
    """The rows with another one there."""
    return ROWS[:at] + (row,) + ROWS[at + 1:]


class Fewest(unittest.TestCase):
    def told_right(self, net, place, moment, other, by, count):
        """The number is told, and a paper that says so."""
        where = (net, place, moment, other, by)
        told = fewest(net, place, moment, other, by)
        self.assertTrue(helper.same(told, count), (where, told, count))
        paper = meets_paper(net, place, moment, other, by)
        self.assertTrue(helper.right_meets_paper(net, place, moment, other, by, paper), (where, paper))
        self.assertIs(meets_paper_holds(net, place, moment, other, by, paper), True)
        self.assertEqual(paper[0], "never" if count is None else "meets")
        if count is not None:
            self.assertEqual((len(paper[1]), len(paper[2])), (count, count))

    def test_by_hand(self):
        for by, count in ((20, 1), (21, 1), (10 ** 13, 1), (19, 2), (10, 2), (9, 3), (6, 3), (5, None), (0, None)):
            self.told_right(NET, 0, 0, 3, by, count)
        self.told_right(NET, 0, 1, 3, 20, None)
        self.told_right(NET, 3, 3, 1, 10, 1)
        self.told_right(NET, 3, 4, 1, 10, None)
        self.told_right(NET, 1, 2, 3, 9, 2)
        self.told_right(NET, 1, 2, 3, 10, 1)
        self.told_right(NET, 0, 0, 4, 10 ** 13, None)

    def test_papers_by_hand(self):
        paper = meets_paper(NET, 0, 0, 3, 9)
        self.assertEqual((paper[0], paper[2]), ("meets", ROWS))
        self.assertIn(paper[1], ((0, 1, 2), (0, 1, 5)))
        self.assertEqual(meets_paper(NET, 0, 0, 3, 19), ("meets", (0, 3), ROWS[:2]))
        self.assertEqual(meets_paper(NET, 0, 0, 3, 20), ("meets", (4,), ROWS[:1]))
        self.assertEqual(meets_paper(NET, 0, 0, 3, 5), ("never", NEVER))
        self.assertEqual(meets_paper(NET, 0, 0, 0, 0), ("meets", (), ()))

    def test_to_the_place_itself(self):
        net = (2, (("both", 0, 1, 5, 1), ("both", 0, 1, 6, 1)))
        for place in (0, 1):
            for moment, by, count in ((0, 0, 0), (5, 5, 0), (5, 9, 0), (5, 4, None), (7, 0, None), (0, 10 ** 13, 0)):
                self.told_right(net, place, moment, place, by, count)
        self.told_right((1, ()), 0, 3, 0, 3, 0)
        self.told_right((1, ()), 0, 3, 0, 2, None)

    def test_a_moment_below_the_first_one(self):
        for by in (0, 3, 4):
            for other in range(4):
                self.told_right(NET, 1, 5, other, by, None)

    def test_touching_and_one_off(self):
        for begin, by, count in ((4, 9, None), (5, 6, 2), (5, 5, None), (6, 7, 2), (6, 6, None)):
            self.told_right((3, (("to", 1, 2, begin, 1), ("to", 0, 1, 3, 2))), 0, 3, 2, by, count)
        for moment, count in ((2, 1), (3, 1), (4, None)):
            self.told_right((2, (("to", 0, 1, 3, 2),)), 0, moment, 1, 5, count)

    def test_meetings_of_one_row_do_not_follow_one_another(self):
        # Told in the order in which they are gone, three meetings are still three.
        for order in ((0, 1, 2), (2, 1, 0), (1, 0, 2)):
            net = (4, tuple(("to", at, at + 1, at, 1) for at in order))
            self.told_right(net, 0, 0, 3, 9, 3)

    def test_beside_all_ways_of_small_nets(self):
        dice = random.Random(33)
        for net in helper.small_nets():
            moments = helper.moments_of(net)
            for place in range(net[0]):
                for other in range(net[0]):
                    for _ in range(4):
                        moment, by = dice.choice(moments[:9]), dice.choice(moments)
                        count = helper.fewest_of_all_ways(net, place, moment, other, by)
                        self.told_right(net, place, moment, other, by, count)

    def test_beside_all_standings(self):
        dice = random.Random(34)
        seen = []
        for net in helper.great_nets() + helper.read_nets()[:3]:
            moments = helper.moments_of(net)
            for _ in range(4):
                place, other = dice.randrange(net[0]), dice.randrange(net[0])
                moment = dice.choice(moments[:len(moments) // 2])
                come = helper.earliest_again_and_again(net, place, moment)[other]
                for by in {dice.choice(moments)} | ({come, come + 1, max(come - 1, 0)} if come is not None else set()):
                    seen.append(helper.fewest_by_standings(net, place, moment, other, by))
                    self.told_right(net, place, moment, other, by, seen[-1])
        self.assertGreater(len([count for count in seen if count is not None and count > 2]), 20)

    def test_chains_of_forty_meetings(self):
        for net in helper.read_nets()[3:]:
            self.told_right(net, 0, 0, 40, 80, 40)
            self.told_right(net, 0, 0, 40, 79, None)
            self.told_right(net, 0, 1, 40, 80, None)
            self.told_right(net, 3, 6, 7, 14, 4)

    def test_nets_read_of_a_text(self):
        far = "7" * 1200
        net = read_net(f"places 3\nto 0 1 {far} {far}\nto 1 2 2{far} 1\nto 0 2 0 9{far}")
        second = net[1][1]
        self.told_right(net, 0, 0, 2, second[3] + 1, 2)
        self.told_right(net, 0, 0, 2, second[3], None)
        self.told_right(net, 0, 0, 2, net[1][2][4], 1)

    def test_places_too_many_to_go_through(self):
        net = read_net("places " + "9" * 50 + "\nto 3 4 0 1\nto 4 5 1 1\nto 3 5 1 3")
        self.assertEqual(fewest(net, 3, 0, 5, 3), 2)
        self.assertEqual(fewest(net, 3, 0, 5, 4), 1)
        self.assertEqual(fewest(net, 3, 0, 10 ** 49, 9), None)
        self.assertIs(meets_paper_holds(net, 3, 0, 5, 4, ("meets", (2,), ((0,) * 9000,))), False)
        self.assertIs(meets_paper_holds(net, 3, 0, 3, 4, ("meets", (), ())), True)


class Checker(unittest.TestCase):
    def holds(self, thing, other=3, by=9):
        return meets_paper_holds(NET, 0, 0, other, by, thing)

    def test_papers_by_other_hands(self):
        for way in ((0, 1, 2), (0, 1, 5)):
            self.assertIs(self.holds(("meets", way, ROWS)), True)
            for at, row in (
                (0, (0, 4, None, None, None)), (0, (0, None, None, 99, None)),
                (1, (0, 2, 6, 20, None)), (1, (0, 2, None, 11, None)), (2, (0, 2, 4, 10, 10 ** 39)),
                (2, (-1, -1, -1, 10, -10 ** 39)), (2, (0, 2, 3, 10, None)),
            ):
                self.assertIs(self.holds(("meets", way, with_row(at, row))), True, row)
            self.assertIs(self.holds(("meets", way, tuple((-3, *row[1:]) for row in ROWS))), True)
        for floor in (NEVER, (0, 0, 0, 0, None), (-5, 1, 3, 3, 10)):
            self.assertIs(self.holds(("never", floor), 4), True, floor)
        self.assertIs(self.holds(("never", NEVER), 3, 5), True)
        self.assertIs(self.holds(("meets", (4,), ((0, 7, 7, 21, 7),)), 3, 20), True)
        self.assertIs(self.holds(("meets", (), ()), 0, 0), True)

    def test_each_clause_of_the_way_broken(self):
        for way in (
            (0, 1), (0, 3), (4,), (0, 1, 3), (1, 2, 0), (0, 1, 2, 3), (), (0, 1, 9), [0, 1, 2], None, "012", (0, 1, "2"),
            (False, 1, 2), (0, True, 2), (0, 1, None), ((0, 1, 2),), (0, 1, -4), {0: 0, 1: 1, 2: 2}, (0, 0, 1),
        ):
            self.assertIs(self.holds(("meets", way, ROWS)), False, way)
        # Ways of as many meetings as there are rows that come too late, or elsewhere.
        self.assertIs(self.holds(("meets", (0, 3), ROWS[:2])), False)
        self.assertIs(self.holds(("meets", (0, 1), ROWS[:2])), False)
        self.assertIs(self.holds(("meets", (4,), ROWS[:1])), False)
        self.assertIs(self.holds(("meets", (0, 1, 2), ROWS), by=5), False)
        self.assertIs(meets_paper_holds(NET, 0, 1, 3, 9, ("meets", (0, 1, 2), ROWS)), False)
        self.assertIs(self.holds(("meets", (), ())), False)

    def test_each_clause_of_the_rows_broken(self):
        for rows in (
            ROWS[1:], ROWS[:2], ROWS + ROWS[2:], ROWS[:1] + ROWS, ROWS[::-1], (ROWS[1], ROWS[0], ROWS[2]), list(ROWS), (),
            (ROWS[0], ROWS[2], ROWS[1]), None, "rows", (ROWS,), ROWS + (None,), ROWS[0], {0: ROWS}, (None, None, None),
            (ROWS[1], ROWS[2], NEVER),
        ):
            self.assertIs(self.holds(("meets", (0, 1, 2), rows)), False, rows)
        for at, row in (
            (0, (1, None, None, None, None)), (0, (None,) * 5), (1, (1, 2, None, 20, None)), (1, (None, 2, None, 20, None)),
            (1, (0, 3, None, 20, None)), (1, (0, None, None, 20, None)), (1, (0, 2, None, 21, None)),
            (1, (0, 2, None, None, None)), (2, (0, 2, 5, 10, None)), (2, (0, 2, None, 10, None)), (2, (0, 2, 4, 11, None)),
            (2, (0, 2, 4, None, None)), (2, (0, 2, 4, 9, None)), (2, (0, 2, 4, 6, None)), (2, (1, 2, 4, 10, None)),
            (2, (0, 3, 4, 10, None)), (1, (0, 2, 4, 20, None)), (0, list(ROWS[0])), (0, ROWS[0][:4]),
            (0, ROWS[0] + (None,)), (0, (False, None, None, None, None)), (0, (0, None, None, None, True)),
            (0, ("0", None, None, None, None)), (0, (0, None, (), None, None)), (0, None), (0, ()), (0, 0), (2, {}),
            (2, (0, 2, 4, 10, False)), (2, (0, 2, 4, "10", None)), (2, [0, 2, 4, 10, None]), (1, (0, True, None, 20, None)),
            (0, (0, None, None, None, 8)), (1, (0, 2, None, 20, 8)),
        ):
            self.assertIs(self.holds(("meets", (0, 1, 2), with_row(at, row))), False, (at, row))

    def test_what_a_row_has_stays(self):
        # No step asks it: a place that has a number keeps one that is no greater.
        first = (0, None, None, None, 8)
        for last, told in ((8, True), (7, True), (9, False), (None, False)):
            rows = (first, (0, 2, None, 20, 8), (0, 2, 4, 10, last))
            self.assertIs(self.holds(("meets", (0, 1, 2), rows)), told, last)

    def test_each_other_clause_broken(self):
        paper = ("meets", (0, 1, 2), ROWS)
        self.assertIs(self.holds(paper), True)
        for thing in (
            paper[:2], paper[:1], (), paper + (None,), list(paper), ("meet", *paper[1:]), ("Meets", *paper[1:]),
            ("comes", *paper[1:]), ("never", *paper[1:]), (None, *paper[1:]), (True, *paper[1:]), ("meets", ROWS, (0, 1, 2)),
            ("never", NEVER), ("never", ROWS), ("meets", NEVER), "meets", None, (paper,), paper[1:],
        ):
            self.assertIs(self.holds(thing), False, thing)
        for thing in (
            ("never", (0, 2, 4, 7, None)), ("never", (0, 2, 4, None, None)), ("never", (0, 3, 4, 6, None)),
            ("never", (1, 2, 4, 6, None)), ("never", (0, 2, 4, 5, None)), ("never", list(NEVER)), ("never", NEVER, NEVER),
            ["never", NEVER], ("never",), ("never", NEVER[:4]), ("never", None), "never", ("none", NEVER),
            ("never", (0, 2, 4, 6, False)), ("meets", (), ()), ("meets", NEVER), ("never", (0, 2, 4, True, None)),
        ):
            self.assertIs(self.holds(thing, 3, 5), False, thing)
        self.assertIs(self.holds(("never", NEVER), 3, 6), False)
        self.assertIs(self.holds(("never", NEVER), 3, 5), True)

    def test_the_same_place(self):
        net = (2, (("both", 0, 1, 3, 1), ("both", 0, 1, 4, 1)))
        self.assertIs(meets_paper_holds(net, 0, 3, 0, 3, ("meets", (), ())), True)
        self.assertIs(meets_paper_holds(net, 0, 3, 0, 2, ("meets", (), ())), False)
        self.assertIs(meets_paper_holds(net, 0, 3, 0, 2, ("never", (3, 4))), True)
        self.assertIs(meets_paper_holds(net, 0, 3, 0, 3, ("never", (3, 4))), False)
        self.assertIs(meets_paper_holds(net, 0, 3, 0, 2, ("never", (None, 4))), False)
        self.assertIs(meets_paper_holds(net, 0, 3, 0, 5, ("meets", (0, 1), ((3, None), (3, 4)))), False)
        self.assertIs(meets_paper_holds(net, 0, 3, 0, 5, ("meets", (), ((3, None),))), False)
        self.assertIs(meets_paper_holds(net, 0, 3, 0, 5, ("meets", (), [])), False)

    def test_what_is_nearly_one(self):
        dice = random.Random(35)
        nets = [NET] + helper.some_of(dice, helper.small_nets()[10:], 30) + helper.some_of(dice, helper.great_nets(), 5)
        for net in nets:
            moments = helper.moments_of(net)
            for _ in range(2):
                place, other = dice.randrange(net[0]), dice.randrange(net[0])
                moment, by = dice.choice(moments[:6]), dice.choice(moments)
                for thing in helper.some_of(dice, helper.near(meets_paper(net, place, moment, other, by)), 500):
                    told = helper.right_meets_paper(net, place, moment, other, by, thing)
                    self.assertIs(meets_paper_holds(net, place, moment, other, by, thing), told, repr(thing)[:200])

    def test_what_is_let_by_is_so(self):
        dice = random.Random(36)
        let_by = []
        chains = [(5, helper.chain(5, "both", range(4))[1] + helper.some_net(dice, 5, 3, 9, 2)[1]) for _ in range(40)]
        for net in helper.small_nets() + chains:
            ways = helper.all_ways(net, 0, 0)
            for _ in range(80):
                way, _, other, come = dice.choice(ways)
                by = max(come + dice.choice((-1, 0, 0, 1, 2)), 0)
                paper = ("meets", way, self.some_rows(dice, net, len(way)))
                told = meets_paper_holds(net, 0, 0, other, by, paper)
                self.assertIs(told, helper.right_meets_paper(net, 0, 0, other, by, paper))
                if told:
                    let_by.append(len(way))
                    self.assertEqual(len(way), helper.fewest_of_all_ways(net, 0, 0, other, by))
                floor = helper.lowered(dice, helper.earliest_of_all_ways(net, 0, 0))
                if meets_paper_holds(net, 0, 0, other, by, ("never", floor)):
                    self.assertIs(helper.fewest_of_all_ways(net, 0, 0, other, by), None)
        for count in (0, 1, 2, 3):
            self.assertGreater(let_by.count(count), 20)

    def some_rows(self, dice, net, count):
        """Rows of comings by at most 0, 1, 2 .. meetings, now and then some numbers of one of them less."""
        less = dice.randrange(-count, count) if count > 0 else None
        rows = []
        for at in range(count):
            ways = [way for way in helper.all_ways(net, 0, 0) if len(way[0]) <= at]
            row = [min([come for _, _, to, come in ways if to == other], default=None) for other in range(net[0])]
            rows.append(helper.lowered(dice, row) if at == less else tuple(row))
        return tuple(rows)

    def test_things_of_other_kinds(self):
        for thing in helper.ODD_THINGS:
            for other, by in ((3, 9), (4, 9), (0, 0)):
                for paper in (
                    thing, ("meets", thing, ROWS), ("meets", (0, 1, 2), thing), ("meets", (0, 1, 2), with_row(1, thing)),
                    ("meets", thing, thing), ("meets", (), thing), ("never", thing), (thing, (0, 1, 2), ROWS), (thing, NEVER),
                ):
                    told = helper.right_meets_paper(NET, 0, 0, other, by, paper)
                    self.assertIs(self.holds(paper, other, by), told, repr(paper)[:80])


if __name__ == "__main__":
    unittest.main()
