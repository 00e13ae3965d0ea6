"""Point 13: ceilings, and papers of the latest, whoever wrote them."""

import random
import unittest

import helper
from meetways.latechecks import ceiling_holds, late_paper_holds
from meetways.latepapers import late_paper
from meetways.latest import late_way, latest
from meetways.nettexts import read_net
from meetways.turning import top_of

# Two ways leave 0 at 4 and come to 2 by 9: (0, 1) and (0, 2); the way (3,) leaves at 2.
NET = (4, (("to", 0, 1, 4, 1), ("both", 1, 2, 5, 4), ("to", 1, 2, 5, 2), ("to", 0, 2, 2, 7)))
CEILING = (4, 5, 9, None)


class Ceilings(unittest.TestCase):
    def test_by_hand(self):
        for ceiling in (
            CEILING, (5, 5, 9, None), (4, 6, 9, None), (4, 5, 12, None), (10 ** 39, 10 ** 39, 10 ** 39, None),
            (4, 5, 9, 0), (4, 5, 9, -3), (99, 99, 99, 99),
        ):
            self.assertIs(ceiling_holds(NET, 2, 9, ceiling), True, ceiling)
        for ceiling in (
            (4, 5, 8, None), (4, 5, None, None), (3, 5, 9, None), (None, 5, 9, None), (4, 4, 9, None), (4, None, 9, None),
            (None, None, 9, None), (None, None, None, None), (4, 5, 9), (4, 5, 9, None, None), list(CEILING), (),
            (4, 5, 9, True), (True, 5, 9, None), ("4", 5, 9, None), (4, 5, (9,), None), (4, 5, 9, []), None, 4, "4 5 9",
            {0: 4, 1: 5, 2: 9, 3: None}, (-4, 5, 9, None),
        ):
            self.assertIs(ceiling_holds(NET, 2, 9, ceiling), False, ceiling)

    def test_steps_that_end_behind_are_not_asked(self):
        net = (2, (("to", 0, 1, 5, 1),))
        self.assertIs(ceiling_holds(net, 1, 5, (None, 5)), True)
        self.assertIs(ceiling_holds(net, 1, 5, (None, 6)), False)
        self.assertIs(ceiling_holds(net, 1, 6, (None, 6)), False)
        self.assertIs(ceiling_holds(net, 1, 6, (4, 6)), False)
        self.assertIs(ceiling_holds(net, 1, 6, (5, 6)), True)
        self.assertIs(ceiling_holds(net, 1, 7, (5, 7)), True)

    def test_both_directions_are_asked(self):
        net = (2, (("both", 0, 1, 5, 1),))
        self.assertIs(ceiling_holds(net, 0, 6, (6, None)), False)
        self.assertIs(ceiling_holds(net, 0, 6, (6, 5)), True)
        self.assertIs(ceiling_holds(net, 0, 6, (6, 4)), False)
        self.assertIs(ceiling_holds((2, (("to", 0, 1, 5, 1),)), 0, 6, (6, None)), True)

    def test_steps_are_asked_to_places_that_lead_nowhere(self):
        net = (3, (("to", 1, 2, 5, 1),))
        self.assertIs(ceiling_holds(net, 0, 9, (9, None, 6)), False)
        self.assertIs(ceiling_holds(net, 0, 9, (9, None, 5)), True)
        self.assertIs(ceiling_holds(net, 0, 9, (9, 5, 6)), True)

    def test_what_is_told_is_one(self):
        for net in helper.small_nets() + helper.great_nets() + helper.read_nets():
            for place in range(net[0]):
                for moment in helper.moments_of(net)[::4]:
                    self.assertIs(ceiling_holds(net, place, moment, latest(net, place, moment)), True)

    def test_rows_of_any_numbers(self):
        dice = random.Random(21)
        seen = []
        for net in helper.small_nets():
            for _ in range(60):
                row = tuple(dice.choice((None, 12, dice.randint(0, 12))) for _ in range(net[0]))
                place = dice.randrange(net[0])
                moment = dice.randint(0, 12)
                told = helper.right_ceiling(net, place, moment, row)
                seen.append(told)
                self.assertIs(ceiling_holds(net, place, moment, row), told, (net, place, moment, row))
        self.assertGreater(min(seen.count(True), seen.count(False)), 500)

    def test_no_way_leaves_later(self):
        dice = random.Random(22)
        let_by = 0
        for net in helper.small_nets():
            row = helper.latest_of_all_ways(net, 0, 9)
            for _ in range(40):
                ceiling = tuple(dice.choice((None, leave, dice.randint(0, 12))) for leave in row)
                if ceiling_holds(net, 0, 9, ceiling):
                    let_by += 1
                    for number, leave in zip(ceiling, row):
                        self.assertTrue(leave is None or (number is not None and number >= leave))
        self.assertGreater(let_by, 500)

    def test_things_of_other_kinds(self):
        for thing in helper.ODD_THINGS:
            for net in ((1, ()), (2, ()), NET):
                told = helper.right_ceiling(net, 0, 1, thing)
                self.assertIs(ceiling_holds(net, 0, 1, thing), told, repr(thing)[:80])


class Papers(unittest.TestCase):
    def holds(self, thing, one=0, moment=9):
        return late_paper_holds(NET, one, 2, moment, thing)

    def test_told_ones(self):
        dice = random.Random(23)
        for net in helper.small_nets() + helper.great_nets() + helper.read_nets():
            for moment in helper.some_of(dice, helper.moments_of(net), 4):
                place = dice.randrange(net[0])
                for one in helper.some_of(dice, range(net[0]), 8):
                    self.assertIs(late_paper_holds(net, one, place, moment, late_paper(net, one, place, moment)), True)

    def test_papers_by_other_hands(self):
        for way in ((0, 1), (0, 2)):
            for ceiling in (CEILING, (4, 6, 9, None), (4, 5, 10, None), (4, 5, 9, 0), (4, 99, 99, -10 ** 39)):
                self.assertIs(self.holds(("leaves", way, ceiling)), True, (way, ceiling))
        for ceiling in (CEILING, (99, 99, 99, None), (4, 5, 10, None)):
            self.assertIs(self.holds(("never", ceiling), 3), True, ceiling)
        self.assertIs(self.holds(("leaves", (), CEILING), 2), True)
        self.assertIs(self.holds(("leaves", (), (10 ** 39, 5, 9, 7)), 2), True)
        self.assertIs(self.holds(("leaves", (0, 2), (4, 5, 8, None)), moment=8), True)
        self.assertIs(self.holds(("leaves", (0, 2), (4, 5, 7, None)), moment=7), True)
        self.assertIs(self.holds(("never", (None, None, 6, None)), moment=6), True)

    def test_each_clause_broken(self):
        for thing in (
            ("leaves", (3,), CEILING), ("leaves", (3,), (2, 5, 9, None)), ("leaves", (0, 1), (5, 5, 9, None)),
            ("leaves", (0, 1), (3, 5, 9, None)), ("leaves", (0, 1), (4, 4, 9, None)), ("leaves", (0, 1), (4, 5, 8, None)),
            ("leaves", (0, 1), (4, 5, None, None)), ("leaves", (0,), CEILING), ("leaves", (), CEILING),
            ("leaves", (), (9, 9, 9, None)), ("leaves", (1,), CEILING), ("leaves", (1, 0), CEILING),
            ("leaves", (0, 1, 0), CEILING), ("leaves", (0, 9), CEILING), ("leaves", (0, -3), CEILING),
            ("leaves", [0, 1], CEILING), ("leaves", (False, 1), CEILING), ("leaves", (0, True), CEILING),
            ("leaves", None, CEILING), ("leaves", (0, 1), list(CEILING)), ("leaves", (0, 1), (4, 5, 9)),
            ("leaves", (0, 1), (4, 5, 9, None, None)), ("leaves", (0, 1)), ("leaves", (0, 1), CEILING, None),
            ["leaves", (0, 1), CEILING], ("leave", (0, 1), CEILING), ("comes", (0, 1), CEILING),
            ("never", (0, 1), CEILING), (None, (0, 1), CEILING), ("leaves", CEILING, (0, 1)), ("never", CEILING),
            ("leaves", (0, 1), (4, 5, 9, False)), ("leaves", CEILING), (), ("leaves",), "leaves", None, True,
        ):
            self.assertIs(self.holds(thing), False, thing)
        for thing in (
            ("leaves", (), CEILING), ("never", (4, 5, 9, 0)), ("never", (4, 5, 8, None)), ("never", (3, 5, 9, None)),
            ("never", list(CEILING)), ("never", CEILING, CEILING), ("never", (), CEILING), ["never", CEILING],
            ("never",), ("never", (4, 5, 9)), ("never", (4, 5, 9, False)), ("never", None), ("Never", CEILING), "never",
        ):
            self.assertIs(self.holds(thing, 3), False, thing)

    def test_the_way_comes_by_the_moment(self):
        self.assertIs(self.holds(("leaves", (0, 1), (4, 5, 8, None)), moment=8), False)
        self.assertIs(self.holds(("leaves", (0, 2), (4, 5, 6, None)), moment=6), False)
        self.assertIs(self.holds(("leaves", (0, 2), (4, 5, 7, None)), moment=6), False)

    def test_the_same_place(self):
        net = (2, (("both", 0, 1, 3, 1), ("both", 0, 1, 4, 1)))
        self.assertIs(late_paper_holds(net, 0, 0, 5, ("leaves", (), (5, 4))), True)
        self.assertIs(late_paper_holds(net, 0, 0, 0, ("leaves", (), (0, None))), True)
        self.assertIs(late_paper_holds(net, 0, 0, 5, ("leaves", (), (6, 4))), False)
        self.assertIs(late_paper_holds(net, 0, 0, 5, ("leaves", (0, 1), (5, 4))), False)
        self.assertIs(late_paper_holds(net, 0, 0, 5, ("leaves", (0, 1), (3, 4))), False)
        self.assertIs(late_paper_holds(net, 0, 0, 5, ("never", (None, 4))), False)
        self.assertIs(late_paper_holds(net, 1, 0, 5, ("leaves", (), (5, 4))), False)

    def test_what_is_nearly_one(self):
        dice = random.Random(24)
        nets = [NET] + helper.some_of(dice, helper.small_nets(), 25) + helper.some_of(dice, helper.great_nets(), 4)
        for net in nets:
            one, place = dice.randrange(net[0]), dice.randrange(net[0])
            moment = dice.choice(helper.moments_of(net))
            for thing in helper.near(late_paper(net, one, place, moment)):
                told = helper.right_late_paper(net, one, place, moment, thing)
                self.assertIs(late_paper_holds(net, one, place, moment, thing), told, repr(thing)[:200])

    def test_things_of_other_kinds(self):
        for thing in helper.ODD_THINGS:
            for one in range(4):
                self.assertIs(self.holds(thing, one), False)
                for paper in (("leaves", thing, CEILING), ("leaves", thing, thing), ("never", thing), (thing, CEILING)):
                    told = helper.right_late_paper(NET, one, 2, 9, paper)
                    self.assertIs(self.holds(paper, one), told, repr(paper)[:80])
                self.assertIs(self.holds((thing, (0, 1), CEILING), one), False if thing != "leaves" else one == 0)

    def test_what_is_let_by_is_so(self):
        dice = random.Random(25)
        let_by = 0
        for net in helper.small_nets():
            row = helper.latest_of_all_ways(net, 0, 8)
            for _ in range(60):
                one = dice.randrange(net[0])
                ceiling = tuple(dice.choice((None, leave, dice.randint(0, 12))) for leave in row)
                way = dice.choice(helper.all_ways(net, one, 0))[0]
                if late_paper_holds(net, one, 0, 8, ("leaves", way, ceiling)):
                    let_by += 1
                    self.assertEqual(ceiling[one], row[one])
                if late_paper_holds(net, one, 0, 8, ("never", ceiling)):
                    let_by += 1
                    self.assertIs(row[one], None)
        self.assertGreater(let_by, 100)

    def test_every_way_that_leaves_just_then(self):
        for net in helper.small_nets():
            moment = top_of(net)
            for one in range(net[0]):
                for way, leave, to, come in helper.all_ways(net, one, 0):
                    ceiling = latest(net, to, moment)
                    told = moment == ceiling[one] if leave is None else leave == ceiling[one]
                    self.assertIs(late_paper_holds(net, one, to, moment, ("leaves", way, ceiling)), told)

    def test_places_too_many_to_go_through(self):
        net = read_net("places " + "9" * 50 + "\nto 3 4 0 1")
        way = late_way(net, 3, 4, 9)
        self.assertEqual(way, (0,))
        self.assertIs(late_paper_holds(net, 3, 4, 9, ("leaves", way, (None,) * 19000)), False)
        self.assertIs(late_paper_holds(net, 5, 4, 9, ("never", ())), False)
        self.assertIs(ceiling_holds(net, 3, 9, (9,) * 19000), False)


if __name__ == "__main__":
    unittest.main()
