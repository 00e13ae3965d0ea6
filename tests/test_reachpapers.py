"""Point 18: papers of the pairs, and their checker."""

import random
import unittest

import helper
from meetways.nettexts import read_net
from meetways.reach import reach
from meetways.reachchecks import reach_paper_holds
from meetways.reachpapers import reach_paper

# From 0 to 2 the pairs are (0, 7), (5, 10), (8, 17); by (5, 10) go (3, 4) and (3, 6).
NET = (4, (
    ("to", 0, 1, 0, 2), ("to", 1, 2, 2, 5), ("both", 0, 2, 4, 6), ("to", 0, 1, 5, 1), ("to", 1, 2, 9, 1),
    ("to", 0, 2, 8, 9), ("to", 1, 2, 7, 3)))
ROWS = ((0, 7, (0, 1)), (5, 10, (3, 4)), (8, 17, (5,)))
FLOORS = ((0, 2, 7, None), (1, 6, 10, None), (6, None, 17, None), (9, None, None, None))


def put(things, at, thing):
    """The tuple with another thing there."""
    return things[:at] + (thing,) + things[at + 1:]


class Papers(unittest.TestCase):
    def told_right(self, net, one, other, pairs):
        """A paper is told that is one, and says that these are the pairs."""
        paper = reach_paper(net, one, other)
        self.assertTrue(helper.right_reach_paper(net, one, other, paper), (net, one, other, paper))
        self.assertIs(reach_paper_holds(net, one, other, paper), True)
        self.assertEqual(tuple((leave, come) for leave, come, way in paper[0]), pairs)

    def test_by_hand(self):
        rows, floors = reach_paper(NET, 0, 2)
        self.assertIn(rows, (ROWS, put(ROWS, 1, (5, 10, (3, 6)))))
        self.assertEqual(floors, FLOORS)
        self.assertEqual(reach_paper(NET, 0, 3), ((), ((0, 2, 7, None),)))
        self.assertEqual(reach_paper(NET, 2, 0), (((4, 10, (2,)),), ((10, None, 0, None), (None, None, 5, None))))
        self.assertEqual(reach_paper((2, ()), 0, 1), ((), ((0, None),)))

    def test_beside_all_ways_of_small_nets(self):
        for net in helper.small_nets():
            for one in range(net[0]):
                for other in range(net[0]):
                    if one != other:
                        self.told_right(net, one, other, helper.pairs_of_all_ways(net, one, other))

    def test_beside_all_steps_again_and_again(self):
        dice = random.Random(37)
        for net in helper.great_nets() + helper.read_nets():
            one = dice.randrange(net[0])
            found = helper.pairs_again_and_again(net, one)
            for other in helper.some_of(dice, range(net[0]), 6):
                if one != other:
                    self.told_right(net, one, other, found[other])

    def test_forty_that_none_beats(self):
        net = (2, tuple(("both", 0, 1, 3 * at, 5) for at in range(40)))
        for one, other in ((0, 1), (1, 0)):
            self.told_right(net, one, other, tuple((3 * at, 3 * at + 5) for at in range(40)))

    def test_nets_read_of_a_text(self):
        far = "7" * 1200
        net = read_net(f"places 3\nto 0 1 {far} {far}\nto 0 1 0 {far}\nto 1 2 {far} 1")
        for other in (1, 2):
            self.told_right(net, 0, other, reach(net, 0, other))
        self.assertEqual([len(reach(net, 0, other)) for other in (1, 2)], [2, 1])


class Checker(unittest.TestCase):
    def holds(self, thing, other=2):
        return reach_paper_holds(NET, 0, other, thing)

    def test_papers_by_other_hands(self):
        for way in ((3, 4), (3, 6)):
            rows = put(ROWS, 1, (5, 10, way))
            self.assertIs(self.holds((rows, FLOORS)), True)
            for at, floor in (
                (0, (-7, 2, 7, None)), (0, (0, 1, 7, 10 ** 39)), (0, (0, 2, 7, -10 ** 39)), (1, (1, 3, 10, None)),
                (1, (1, 6, 10, 0)), (2, (6, 10, 17, None)), (3, (9, 99, None, 9)), (3, (9, 10, None, None)),
            ):
                self.assertIs(self.holds((rows, put(FLOORS, at, floor))), True, floor)
        for floor in (FLOORS[0], (-5, 1, 3, None), (0, 0, 0, None)):
            self.assertIs(self.holds(((), (floor,)), 3), True, floor)

    def test_each_clause_of_the_rows_broken(self):
        for rows in (
            ROWS[::-1], (ROWS[1], ROWS[0], ROWS[2]), list(ROWS), (ROWS[0], ROWS[0], ROWS[2]), ROWS[:2], ROWS[1:],
            ROWS + ROWS[2:], ROWS + (None,), (), None, "rows", {0: ROWS}, ROWS[0], (ROWS, ROWS, ROWS),
        ):
            self.assertIs(self.holds((rows, FLOORS)), False, rows)
        for at, row in (
            (0, (1, 7, (0, 1))), (0, (-1, 7, (0, 1))), (0, (0, 8, (0, 1))), (0, (0, 6, (0, 1))), (0, (7, 0, (0, 1))),
            (1, (4, 10, (3, 4))), (1, (6, 10, (3, 4))), (1, (5, 9, (3, 4))), (1, (5, 11, (3, 4))), (1, (4, 10, (2,))),
            (0, (0, 10, (0, 4))), (0, (0, 2, (0,))), (0, (0, 7, (0,))), (0, (0, 0, ())), (0, (0, 7, ())),
            (0, (0, 7, (1,))), (0, (0, 7, (1, 0))), (0, (0, 7, (0, 1, 2))), (0, (0, 7, [0, 1])), (0, (0, 7, None)),
            (0, (0, 7, (False, 1))), (0, (0, 7, (0, True))), (0, (0, 7, (0, "1"))), (0, (0, 7, (0, 9))),
            (0, (False, 7, (0, 1))), (0, (None, 7, (0, 1))), (0, ("0", 7, (0, 1))), (0, (0, None, (0, 1))),
            (0, (0, "7", (0, 1))), (0, (0, (7,), (0, 1))), (0, [0, 7, (0, 1)]), (0, (0, 7)), (0, (0, 7, (0, 1), None)),
            (0, (0, 7, 0, 1)), (0, None), (0, 0), (0, ()), (0, {0: 7}), (0, (0, 7, (0, -6))), (0, (0, 7, ((0, 1),))),
        ):
            self.assertIs(self.holds((put(ROWS, at, row), FLOORS)), False, (at, row))

    def test_rows_that_do_not_rise(self):
        net = (2, (("to", 0, 1, 3, 2), ("to", 0, 1, 3, 4), ("to", 0, 1, 1, 4)))
        floors = ((0, 5), (4, None))
        self.assertIs(reach_paper_holds(net, 0, 1, (((3, 5, (0,)),), floors)), True)
        # All else holds: of the one the leaves do not rise, of the other the comes.
        self.assertIs(reach_paper_holds(net, 0, 1, (((3, 5, (0,)), (3, 7, (1,))), (floors[0], *floors[1:] * 2))), False)
        self.assertIs(reach_paper_holds(net, 0, 1, (((1, 5, (2,)), (3, 5, (0,))), (floors[0], (2, 5), floors[1]))), False)
        self.assertIs(reach_paper_holds(net, 0, 1, (((1, 5, (2,)),), ((0, 5), (2, None)))), False)
        self.assertIs(reach_paper_holds(net, 0, 1, (((3, 7, (1,)),), ((0, 7), (4, None)))), False)

    def test_each_clause_of_the_floors_broken(self):
        for floors in (
            FLOORS[1:], FLOORS[:3], FLOORS[:1] + FLOORS, FLOORS + FLOORS[3:], FLOORS[::-1], list(FLOORS), (), None,
            (FLOORS[1], FLOORS[0], *FLOORS[2:]), FLOORS[:1] + FLOORS[2:], "floors", {0: FLOORS}, (None,) * 4, (FLOORS,),
        ):
            self.assertIs(self.holds((ROWS, floors)), False, floors)
        for at, floor in (
            (0, (0, 2, 6, None)), (0, (0, 2, 8, None)), (0, (0, 2, None, None)), (0, (0, 3, 7, None)),
            (0, (0, None, 7, None)), (0, (1, 2, 7, None)), (0, (None, 2, 7, None)), (1, (2, 6, 10, None)),
            (1, (0, 2, 10, None)), (1, (0, 2, 7, None)), (1, (1, 6, 9, None)), (1, (1, 6, 11, None)), (1, (1, 7, 10, None)),
            (2, (7, None, 17, None)), (2, (6, None, 16, None)), (2, (6, None, 18, None)), (2, (6, None, None, None)),
            (2, (6, 9, 10, None)), (3, (10, None, None, None)), (3, (9, None, 17, None)), (3, (9, None, 10 ** 39, None)),
            (3, (8, None, None, None)), (3, (None,) * 4), (0, list(FLOORS[0])), (0, FLOORS[0][:3]), (0, FLOORS[0] + (None,)),
            (0, (False, 2, 7, None)), (0, (0, 2, 7, True)), (0, (0, "2", 7, None)), (0, None), (0, 0), (0, ()),
            (0, (0, FLOORS[0])), (3, (9, None, False, None)), (3, [9, None, None, None]), (1, (True, 6, 10, None)),
        ):
            self.assertIs(self.holds((ROWS, put(FLOORS, at, floor))), False, (at, floor))

    def test_a_pair_left_out_with_its_floor(self):
        for at in range(3):
            rows = ROWS[:at] + ROWS[at + 1:]
            for out in range(4):
                self.assertIs(self.holds((rows, FLOORS[:out] + FLOORS[out + 1:])), False, (at, out))
        self.assertIs(self.holds(((), FLOORS[:1])), False)
        self.assertIs(self.holds(((), FLOORS[3:])), False)

    def test_each_other_clause_broken(self):
        paper = (ROWS, FLOORS)
        self.assertIs(self.holds(paper), True)
        for thing in (
            paper[:1], (), paper + (None,), list(paper), (FLOORS, ROWS), ("reach", *paper), (paper,), None, "paper", 0,
            {0: ROWS, 1: FLOORS}, (ROWS, ROWS), (FLOORS, FLOORS), True,
        ):
            self.assertIs(self.holds(thing), False, thing)
        for other in (1, 3):
            self.assertIs(self.holds(paper, other), False)
        for thing in (((), ()), ((), FLOORS), ([], FLOORS[:1]), ((), list(FLOORS[:1])), ((), ((0, 2, 7, 0),))):
            self.assertIs(self.holds(thing, 3), False, thing)

    def test_what_is_nearly_one(self):
        dice = random.Random(38)
        nets = [NET] + helper.some_of(dice, helper.small_nets()[10:], 30) + helper.some_of(dice, helper.great_nets(), 5)
        for net in nets:
            if net[0] > 1:
                one, other = dice.sample(range(net[0]), 2)
                for thing in helper.some_of(dice, helper.near(reach_paper(net, one, other)), 700):
                    told = helper.right_reach_paper(net, one, other, thing)
                    self.assertIs(reach_paper_holds(net, one, other, thing), told, repr(thing)[:200])

    def test_what_is_let_by_is_so(self):
        dice = random.Random(39)
        let_by = []
        for net in helper.small_nets():
            ways = [way for way in helper.all_ways(net, 0, 0) if way[0]]
            for _ in range(60 if net[0] > 1 else 0):
                other = dice.randrange(1, net[0])
                rows = [(leave, come, way) for way, leave, to, come in ways if to == other and dice.random() < 0.8]
                rows = sorted(dict([((leave, come), (leave, come, way)) for leave, come, way in rows]).values())
                if dice.random() < 0.8:
                    pairs = helper.unbeaten((leave, come) for leave, come, way in rows)
                    rows = [row for row in rows if row[:2] in pairs]
                floors = [helper.earliest_of_all_ways(net, 0, moment) for moment in [0] + [row[0] + 1 for row in rows]]
                floors = [helper.lowered(dice, floor) if dice.random() < 0.2 else floor for floor in floors]
                paper = (tuple(rows), tuple(floors))
                told = reach_paper_holds(net, 0, other, paper)
                self.assertIs(told, helper.right_reach_paper(net, 0, other, paper))
                if told:
                    let_by.append(len(rows))
                    self.assertEqual(tuple(row[:2] for row in rows), helper.pairs_of_all_ways(net, 0, other))
        for count in (0, 1, 2):
            self.assertGreater(let_by.count(count), 50)

    def test_things_of_other_kinds(self):
        for thing in helper.ODD_THINGS:
            for other in (1, 2, 3):
                for paper in (
                    thing, (thing, FLOORS), (ROWS, thing), (thing, thing), ((), thing), ((), (thing,)),
                    (put(ROWS, 1, thing), FLOORS), (ROWS, put(FLOORS, 2, thing)), (put(ROWS, 1, (thing, 10, (3, 4))), FLOORS),
                    (put(ROWS, 1, (5, thing, (3, 4))), FLOORS), (put(ROWS, 1, (5, 10, thing)), FLOORS),
                ):
                    told = helper.right_reach_paper(NET, 0, other, paper)
                    self.assertIs(self.holds(paper, other), told, repr(paper)[:80])

    def test_places_too_many_to_go_through(self):
        net = read_net("places " + "9" * 50 + "\nto 3 4 0 1")
        self.assertIs(reach_paper_holds(net, 3, 4, (((0, 1, (0,)),), ((0,) * 9000, (None,) * 9000))), False)
        self.assertIs(reach_paper_holds(net, 3, 5, ((), ((),))), False)


if __name__ == "__main__":
    unittest.main()
