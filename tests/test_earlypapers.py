"""Point 11: papers of the earliest, and their checker."""

import random
import unittest

import helper
from meetways.earlychecks import early_paper_holds
from meetways.earliest import earliest, early_way
from meetways.earlypapers import early_paper
from meetways.nettexts import read_net

# Two ways come to 2 at 9: (0, 1) and (0, 2); the way (3,) comes at 12.
NET = (4, (("to", 0, 1, 3, 2), ("both", 1, 2, 5, 4), ("to", 1, 2, 6, 3), ("to", 0, 2, 3, 9)))
FLOOR = (3, 5, 9, None)


class Papers(unittest.TestCase):
    def test_by_hand(self):
        self.assertEqual(early_paper(NET, 0, 3, 3), ("never", FLOOR))
        self.assertEqual(early_paper(NET, 0, 3, 1), ("comes", (0,), FLOOR))
        self.assertEqual(early_paper(NET, 0, 3, 0), ("comes", (), FLOOR))
        self.assertEqual(early_paper((1, ()), 0, 0, 0), ("comes", (), (0,)))

    def test_told_ones_are_papers(self):
        dice = random.Random(13)
        for net in helper.small_nets() + helper.great_nets():
            for place in range(net[0]):
                for moment in helper.some_of(dice, helper.moments_of(net), 5):
                    for other in range(net[0]):
                        self.told_is_paper(net, place, moment, other)

    def told_is_paper(self, net, place, moment, other):
        paper = early_paper(net, place, moment, other)
        self.assertTrue(helper.right_early_paper(net, place, moment, other, paper), (net, place, moment, other, paper))
        self.assertIs(early_paper_holds(net, place, moment, other, paper), True)
        come = helper.earliest_again_and_again(net, place, moment)[other]
        self.assertEqual(paper[0], "never" if come is None else "comes")
        if come is not None:
            self.assertEqual(helper.end_of_way(net, place, moment, paper[1]), (other, come))

    def test_nets_read_of_a_text(self):
        net = read_net("\n".join(["places 200"] + [f"both {at} {at + 1} {at} 1" for at in range(198)]))
        for other in (0, 1, 120, 198, 199):
            self.told_is_paper(net, 0, 0, other)
        far = "3" * 900
        net = read_net(f"places 2\nto 0 1 {far} {far}")
        for moment in (0, net[1][0][3], net[1][0][3] + 1):
            for other in (0, 1):
                self.told_is_paper(net, 0, moment, other)


class Checker(unittest.TestCase):
    def holds(self, thing, other=2, moment=3):
        return early_paper_holds(NET, 0, moment, other, thing)

    def test_papers_by_other_hands(self):
        for way in ((0, 1), (0, 2)):
            for floor in (FLOOR, (-4, 5, 9, None), (3, 4, 9, None), (3, -9, 9, 0), (0, 5, 9, 10 ** 39)):
                self.assertIs(self.holds(("comes", way, floor)), True, (way, floor))
        for floor in (FLOOR, (0, 0, 0, None), (-5, 5, 3, None)):
            self.assertIs(self.holds(("never", floor), 3), True, floor)
        self.assertIs(self.holds(("comes", (), FLOOR), 0), True)
        self.assertIs(self.holds(("comes", (), (4, None, None, None)), 0, 4), True)

    def test_each_clause_broken(self):
        for thing in (
            ("comes", (3,), FLOOR), ("comes", (3,), (3, 5, 12, None)), ("comes", (0, 1), (3, 5, 8, None)),
            ("comes", (0, 1), (3, 6, 9, None)), ("comes", (0, 1), (4, 5, 9, None)), ("comes", (0,), FLOOR),
            ("comes", (), FLOOR), ("comes", (1,), FLOOR), ("comes", (0, 1, 0), FLOOR), ("comes", (0, 9), FLOOR),
            ("comes", [0, 1], FLOOR), ("comes", (False, 1), FLOOR), ("comes", (0, True), FLOOR), ("comes", None, FLOOR),
            ("comes", (0, 1), list(FLOOR)), ("comes", (0, 1), (3, 5, 9)), ("comes", (0, 1), (3, 5, 9, None, None)),
            ("comes", (0, 1)), ("comes", (0, 1), FLOOR, None), ["comes", (0, 1), FLOOR], ("come", (0, 1), FLOOR),
            ("never", (0, 1), FLOOR), ("leaves", (0, 1), FLOOR), (None, (0, 1), FLOOR), ("comes", FLOOR, (0, 1)),
            ("never", FLOOR), ("comes", (0, 1), (True, 5, 9, None)), ("comes", FLOOR), (), ("comes",), "comes", None,
        ):
            self.assertIs(self.holds(thing), False, thing)
        for thing in (
            ("comes", (), FLOOR), ("never", (3, 5, 9, 0)), ("never", (3, 5, 10, None)), ("never", (4, 5, 9, None)),
            ("never", list(FLOOR)), ("never", FLOOR, FLOOR), ("never", (), FLOOR), ["never", FLOOR], ("never",),
            ("never", (3, 5, 9)), ("never", (3, 5, 9, False)), ("never", None), ("Never", FLOOR), "never",
        ):
            self.assertIs(self.holds(thing, 3), False, thing)

    def test_the_same_place(self):
        net = (2, (("both", 0, 1, 3, 1), ("both", 0, 1, 4, 1)))
        self.assertIs(early_paper_holds(net, 0, 3, 0, ("comes", (), (3, 4))), True)
        self.assertIs(early_paper_holds(net, 0, 3, 0, ("comes", (), (2, 4))), False)
        self.assertIs(early_paper_holds(net, 0, 3, 0, ("comes", (0, 1), (3, 4))), False)
        self.assertIs(early_paper_holds(net, 0, 3, 0, ("comes", (0, 1), (5, 4))), False)
        self.assertIs(early_paper_holds(net, 0, 3, 0, ("never", (None, 4))), False)

    def test_what_is_nearly_one(self):
        dice = random.Random(14)
        nets = [NET] + helper.some_of(dice, helper.small_nets(), 25) + helper.some_of(dice, helper.great_nets(), 4)
        for net in nets:
            place, other = dice.randrange(net[0]), dice.randrange(net[0])
            moment = dice.choice(helper.moments_of(net))
            for thing in helper.near(early_paper(net, place, moment, other)):
                told = helper.right_early_paper(net, place, moment, other, thing)
                self.assertIs(early_paper_holds(net, place, moment, other, thing), told, repr(thing)[:200])

    def test_things_of_other_kinds(self):
        for thing in helper.ODD_THINGS:
            for other in range(4):
                self.assertIs(self.holds(thing, other), False)
                for floor in (FLOOR, thing):
                    paper = ("comes", thing, floor)
                    told = helper.right_early_paper(NET, 0, 3, other, paper)
                    self.assertIs(self.holds(paper, other), told, repr(paper)[:80])
                self.assertIs(self.holds(("never", thing), other), False)

    def test_what_is_let_by_is_so(self):
        dice = random.Random(15)
        let_by = 0
        for net in helper.small_nets():
            row = helper.earliest_of_all_ways(net, 0, 1)
            ways = [way for way, _, _, _ in helper.all_ways(net, 0, 1)]
            for _ in range(60):
                other = dice.randrange(net[0])
                floor = tuple(dice.choice((None, come, dice.randint(-1, 9))) for come in row)
                way = dice.choice(ways)
                if early_paper_holds(net, 0, 1, other, ("comes", way, floor)):
                    let_by += 1
                    self.assertEqual(helper.end_of_way(net, 0, 1, way), (other, row[other]))
                if early_paper_holds(net, 0, 1, other, ("never", floor)):
                    let_by += 1
                    self.assertIs(row[other], None)
        self.assertGreater(let_by, 100)

    def test_every_way_that_comes_just_then(self):
        for net in helper.small_nets():
            floor = earliest(net, 0, 0)
            for way, _, to, come in helper.all_ways(net, 0, 0):
                self.assertIs(early_paper_holds(net, 0, 0, to, ("comes", way, floor)), come == floor[to])

    def test_places_too_many_to_go_through(self):
        net = read_net("places " + "9" * 50 + "\nto 3 4 0 1")
        way = early_way(net, 3, 0, 4)
        self.assertIs(early_paper_holds(net, 3, 0, 4, ("comes", way, (None,) * 19000)), False)
        self.assertIs(early_paper_holds(net, 3, 0, 5, ("never", ())), False)


if __name__ == "__main__":
    unittest.main()
