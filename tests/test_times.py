"""Point 14: the least time, its papers, and their checker."""

import random
import unittest

import helper
from meetways.nettexts import read_net
from meetways.timechecks import time_paper_holds
from meetways.times import least_time, time_paper

# From 0 to 2 the pairs are (0, 7), (5, 10), (8, 17); ways that take 5 are (3, 4) and (3, 6).
NET = (4, (
    ("to", 0, 1, 0, 2), ("to", 1, 2, 2, 5), ("both", 0, 2, 4, 6), ("to", 0, 1, 5, 1), ("to", 1, 2, 9, 1),
    ("to", 0, 2, 8, 9), ("to", 1, 2, 7, 3)))
FLOORS = ((0, (0, 2, 7, None)), (4, (4, 6, 10, None)), (5, (5, 6, 10, None)), (8, (8, None, 17, None)))
NEVER = (0, 2, 7, None)


def with_row(at, row):
    """The floors with another row there."""
    return FLOORS[:at] + (row,) + FLOORS[at + 1:]


class LeastTime(unittest.TestCase):
    def told_right(self, net, one, moment, other, least):
        """The least time is told, and a paper that says so."""
        told = least_time(net, one, moment, other)
        self.assertTrue(helper.same(told, least), (net, one, moment, other, told, least))
        paper = time_paper(net, one, moment, other)
        self.assertTrue(helper.right_time_paper(net, one, moment, other, paper), (net, one, moment, other, paper))
        self.assertIs(time_paper_holds(net, one, moment, other, paper), True)
        self.assertEqual(paper[0], "never" if least is None else "takes")
        if least is not None:
            taken = helper.gone(net, one, moment, paper[1])
            self.assertEqual(taken[-1][4] - taken[0][3], least)

    def test_by_hand(self):
        for moment, least in ((0, 5), (1, 5), (4, 5), (5, 5), (6, 9), (8, 9), (9, None), (10 ** 13, None)):
            self.told_right(NET, 0, moment, 2, least)
        self.told_right(NET, 0, 0, 1, 1)
        self.told_right(NET, 0, 6, 1, None)
        self.told_right(NET, 2, 4, 0, 6)
        self.told_right(NET, 2, 5, 0, None)
        self.told_right(NET, 0, 0, 3, None)
        self.told_right(NET, 3, 0, 0, None)
        self.told_right((2, ()), 0, 0, 1, None)

    def test_papers_by_hand(self):
        paper = time_paper(NET, 0, 0, 2)
        self.assertEqual((paper[0], paper[2]), ("takes", FLOORS))
        self.assertIn(paper[1], ((3, 4), (3, 6)))
        self.assertEqual(time_paper(NET, 0, 6, 2), ("takes", (5,), FLOORS[3:]))
        self.assertEqual(time_paper(NET, 0, 0, 3), ("never", NEVER))
        self.assertEqual(time_paper(NET, 0, 9, 2), ("never", (9, None, None, None)))

    def test_it_is_not_the_first_nor_the_last_that_counts(self):
        net = (2, (("to", 0, 1, 0, 9), ("to", 0, 1, 3, 7), ("to", 0, 1, 5, 8)))
        self.told_right(net, 0, 0, 1, 7)
        self.told_right(net, 0, 3, 1, 7)
        self.told_right(net, 0, 4, 1, 8)
        self.told_right(net, 0, 6, 1, None)

    def test_beside_all_ways_of_small_nets(self):
        dice = random.Random(29)
        for net in helper.small_nets():
            for one in range(net[0]):
                for moment in helper.some_of(dice, helper.moments_of(net), 6):
                    ways = [way for way in helper.all_ways(net, one, moment) if way[0]]
                    for other in range(net[0]):
                        if one != other:
                            takes = [come - leave for _, leave, to, come in ways if to == other]
                            self.told_right(net, one, moment, other, min(takes, default=None))

    def test_beside_all_steps_again_and_again(self):
        dice = random.Random(30)
        for net in helper.great_nets() + helper.read_nets()[:3]:
            for one in helper.some_of(dice, range(net[0]), 2):
                found = helper.pairs_again_and_again(net, one)
                for moment in helper.some_of(dice, helper.moments_of(net), 3):
                    for other in range(net[0]):
                        if one != other:
                            self.told_right(net, one, moment, other, helper.least_of(found[other], moment))

    def test_chains_of_forty_meetings(self):
        net = helper.read_nets()[3]
        self.told_right(net, 0, 0, 40, 80)
        self.told_right(net, 0, 1, 40, None)
        self.told_right(net, 30, 60, 40, 20)
        self.told_right(net, 40, 0, 39, None)

    def test_nets_read_of_a_text(self):
        far = "7" * 1200
        net = read_net(f"places 3\nto 0 1 {far} {far}\nto 0 1 1{far} 6{far}\nto 1 2 9{far}0 1")
        first, second, third = net[1]
        self.told_right(net, 0, 0, 1, first[4])
        self.told_right(net, 0, first[3] + 1, 1, second[4])
        self.told_right(net, 0, 0, 2, third[3] + 1 - second[3])

    def test_places_too_many_to_go_through(self):
        net = read_net("places " + "9" * 50 + "\nto 3 4 0 1\nto 4 5 1 1\nto 3 5 1 3")
        self.assertEqual(least_time(net, 3, 0, 5), 2)
        self.assertEqual(least_time(net, 3, 1, 5), 3)
        self.assertEqual(least_time(net, 3, 0, 10 ** 49), None)
        self.assertIs(time_paper_holds(net, 3, 0, 5, ("takes", (0, 1), ((0, (0,) * 9000), (1, ())))), False)
        self.assertIs(time_paper_holds(net, 3, 0, 6, ("never", (None,) * 19000)), False)


class Checker(unittest.TestCase):
    def holds(self, thing, other=2, moment=0):
        return time_paper_holds(NET, 0, moment, other, thing)

    def test_papers_by_other_hands(self):
        for way in ((3, 4), (3, 6)):
            self.assertIs(self.holds(("takes", way, FLOORS)), True)
            for at, row in (
                (0, (0, (-7, 2, 7, None))), (0, (0, (0, 2, 5, None))), (0, (0, (0, 1, 6, 3))), (1, (4, (4, 6, 9, None))),
                (1, (4, (4, 4, 9, 10 ** 39))), (2, (5, (5, 6, 10, -10 ** 39))), (3, (8, (8, 10, 13, None))),
                (3, (8, (8, None, 13, 0))), (3, (8, (8, None, 16, None))),
            ):
                self.assertIs(self.holds(("takes", way, with_row(at, row))), True, row)
        for floor in (NEVER, (0, 0, 0, None), (-5, 1, 3, None)):
            self.assertIs(self.holds(("never", floor), 3), True, floor)
        self.assertIs(self.holds(("takes", (5,), FLOORS[3:]), moment=8), True)
        self.assertIs(self.holds(("never", (9, None, None, None)), moment=9), True)

    def test_a_none_for_the_other_place(self):
        net = (2, (("to", 0, 1, 3, 2), ("both", 1, 0, 7, 2)))
        self.assertIs(time_paper_holds(net, 0, 0, 1, ("takes", (0,), ((3, (3, 5)), (7, (7, 9))))), True)
        net = (3, (("to", 0, 1, 3, 2), ("to", 0, 2, 4, 1)))
        self.assertIs(time_paper_holds(net, 0, 0, 1, ("takes", (0,), ((3, (3, 5, 5)), (4, (4, None, 5))))), True)
        self.assertIs(time_paper_holds(net, 0, 0, 1, ("takes", (0,), ((3, (3, None, 5)), (4, (4, None, 5))))), False)

    def test_each_clause_of_the_way_broken(self):
        for way in (
            (2,), (0, 1), (5,), (3,), (), (4,), (3, 4, 3), (3, 9), (4, 3), [3, 4], None, "34", (3, None), (3, "4"),
            (3, True), (True, 4), ((3, 4),), (3, 4, 4), (-4, 4), {3: 4},
        ):
            self.assertIs(self.holds(("takes", way, FLOORS)), False, way)
        self.assertIs(self.holds(("takes", (3, 4), FLOORS[3:]), moment=6), False)
        self.assertIs(self.holds(("takes", (3, 4), FLOORS), 1), False)
        # A floor for each leaving, but ways that take longer: beaten by one of the floors.
        self.assertIs(self.holds(("takes", (2,), with_row(2, (5, (5, 6, 11, None))))), False)

    def test_each_clause_of_the_floors_broken(self):
        for floors in (
            FLOORS[1:], FLOORS[:-1], FLOORS[:1] + FLOORS[2:], FLOORS[:1] + FLOORS, FLOORS + FLOORS[3:], FLOORS[::-1],
            FLOORS[:2] + FLOORS[1:], (FLOORS[1], FLOORS[0]) + FLOORS[2:], list(FLOORS), (), None, "floors", {0: FLOORS},
            FLOORS + ((9, (9, None, None, None)),), FLOORS + (None,), (FLOORS,), FLOORS[0],
        ):
            self.assertIs(self.holds(("takes", (3, 4), floors)), False, floors)
        for at, row in (
            (0, (0, (0, 2, 4, None))), (1, (4, (4, 6, 8, None))), (2, (5, (5, 6, 9, None))), (3, (8, (8, None, 12, None))),
            (0, (0, (0, 2, 8, None))), (0, (0, (0, 3, 7, None))), (0, (0, (1, 2, 7, None))), (0, (0, (0, 2, None, None))),
            (0, (0, (None, 2, 7, None))), (2, (5, (6, 6, 10, None))), (2, (4, (4, 6, 10, None))), (0, (1, NEVER)),
            (0, (-1, NEVER)), (0, (None, NEVER)), (0, (False, NEVER)), (0, ("0", NEVER)), (0, ((0,), NEVER)),
            (0, [0, NEVER]), (0, (0, list(NEVER))), (0, (0, NEVER, None)), (0, (0,)), (0, (0, *NEVER)), (0, None), (0, 0),
            (0, (NEVER, 0)), (0, (0, NEVER[:3])), (0, (0, NEVER + (None,))), (0, (0, (False, 2, 7, None))),
            (0, (0, (0, 2, 7, True))), (0, (0, (0, "2", 7, None))), (0, (0, None)), (3, (8, (8, None, 17, False))),
            (3, (8, (8, None, 18, None))), (3, (9, (9, None, None, None))), (0, (0, (0, 2, 7, []))), (0, {0: NEVER}),
        ):
            self.assertIs(self.holds(("takes", (3, 4), with_row(at, row))), False, (at, row))

    def test_each_other_clause_broken(self):
        paper = ("takes", (3, 4), FLOORS)
        self.assertIs(self.holds(paper), True)
        for thing in (
            paper[:2], paper[:1], (), paper + (None,), list(paper), ("take", *paper[1:]), ("Takes", *paper[1:]),
            ("comes", *paper[1:]), ("never", *paper[1:]), (None, *paper[1:]), (True, *paper[1:]), ("takes", FLOORS, (3, 4)),
            ("never", NEVER), ("never", FLOORS), ("takes", NEVER), "takes", None, (paper,), paper[1:],
        ):
            self.assertIs(self.holds(thing), False, thing)
        for thing in (
            paper, ("never", (0, 2, 7, 0)), ("never", (0, 2, 8, None)), ("never", (1, 2, 7, None)), ("never", list(NEVER)),
            ("never", NEVER, NEVER), ["never", NEVER], ("never",), ("never", NEVER[:3]), ("never", None), "never",
            ("takes", NEVER), ("never", (0, 2, 7, False)), ("none", NEVER), ("never", ((0, NEVER),)), ("takes", (), ()),
        ):
            self.assertIs(self.holds(thing, 3), False, thing)
        self.assertIs(self.holds(("never", (9, None, None, None)), moment=8), False)

    def test_what_is_nearly_one(self):
        dice = random.Random(31)
        nets = [NET] + helper.some_of(dice, helper.small_nets()[10:], 30) + helper.some_of(dice, helper.great_nets(), 4)
        for net in nets:
            if net[0] > 1:
                one, other = dice.sample(range(net[0]), 2)
                moment = dice.choice(helper.moments_of(net)[:9])
                for thing in helper.some_of(dice, helper.near(time_paper(net, one, moment, other)), 700):
                    told = helper.right_time_paper(net, one, moment, other, thing)
                    self.assertIs(time_paper_holds(net, one, moment, other, thing), told, repr(thing)[:200])

    def test_what_is_let_by_is_so(self):
        dice = random.Random(32)
        let_by = 0
        for net in helper.small_nets():
            pairs = [helper.pairs_of_all_ways(net, 0, other) for other in range(net[0])]
            ways = [way for way, _, _, _ in helper.all_ways(net, 0, 1)]
            for _ in range(80 if net[0] > 1 else 0):
                other = dice.randrange(1, net[0])
                floors = []
                for begin in helper.begins_at(net, 0, 1):
                    floors.append((begin, helper.lowered(dice, helper.earliest_of_all_ways(net, 0, begin))))
                way = dice.choice(ways)
                paper = ("takes", way, tuple(floors))
                told = time_paper_holds(net, 0, 1, other, paper)
                self.assertIs(told, helper.right_time_paper(net, 0, 1, other, paper))
                if told:
                    let_by += 1
                    taken = helper.gone(net, 0, 1, way)
                    self.assertEqual(taken[-1][4] - taken[0][3], helper.least_of(pairs[other], 1))
        self.assertGreater(let_by, 100)

    def test_things_of_other_kinds(self):
        for thing in helper.ODD_THINGS:
            for other in (1, 2, 3):
                for paper in (
                    thing, ("takes", thing, FLOORS), ("takes", (3, 4), thing), ("takes", (3, 4), with_row(1, thing)),
                    ("takes", (3, 4), with_row(2, (thing, FLOORS[2][1]))), ("takes", (3, 4), with_row(2, (5, thing))),
                    ("never", thing), (thing, (3, 4), FLOORS), (thing, NEVER),
                ):
                    told = helper.right_time_paper(NET, 0, 0, other, paper)
                    self.assertIs(self.holds(paper, other), told, repr(paper)[:80])


if __name__ == "__main__":
    unittest.main()
