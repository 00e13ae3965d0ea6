"""Point 23: the most ways that share no meeting, and as few meetings whose loss parts two places."""

import itertools
import random
import unittest

import helper
from meetways.nettexts import read_net
from meetways.partchecks import parted_holds
from meetways.parting import parted

# From 0 to 3 by 6 two ways are apart, by 14 three, as the straight meeting ends then.
NET = (5, (
    ("to", 0, 1, 0, 1), ("to", 0, 2, 0, 1), ("both", 1, 2, 1, 1), ("to", 1, 3, 5, 1), ("to", 2, 3, 5, 1),
    ("to", 0, 3, 9, 5)))
WAYS = ((0, 3), (1, 4))
FLOOR = (0, None, None, 14, None)


def asks_of(dice, net, count):
    """So many (place, moment, other, by), most of them from soon to late."""
    moments = helper.moments_of(net)
    asks = []
    for _ in range(count if net[0] > 1 else 0):
        place, other = dice.sample(range(net[0]), 2)
        asks.append((place, dice.choice(moments[:1 + len(moments) // 4]), other, dice.choice(moments[len(moments) // 3:])))
    return asks


class Told(unittest.TestCase):
    def told_right(self, net, ask, count):
        """The thing is as point 23 says, of so many ways; None: of however many."""
        thing = parted(net, *ask)
        self.assertTrue(helper.right_parted(net, *ask, thing), (net, ask, thing))
        self.assertIs(parted_holds(net, *ask, thing), True)
        if count is not None:
            self.assertEqual(len(thing[0]), count, (net, ask, thing))
        for told in (thing, *thing, *thing[0]):
            self.assertIs(type(told), tuple)
        return len(thing[0])

    def test_by_hand(self):
        ways, lost, floor = parted(NET, 0, 0, 3, 6)
        self.assertEqual(sorted(ways), sorted(WAYS))
        self.assertIn(lost, ((0, 1), (3, 4)))
        self.assertEqual(floor, FLOOR if lost == (0, 1) else (0, 1, 1, 14, None))
        for moment, by, count in (
            (0, 5, 0), (0, 6, 2), (0, 13, 2), (0, 14, 3), (1, 14, 1), (9, 14, 1), (10, 14, 0), (0, 10 ** 13, 3), (10 ** 13, 0, 0),
        ):
            self.told_right(NET, (0, moment, 3, by), count)
        self.assertEqual(parted(NET, 0, 10, 3, 10 ** 13), ((), (), (10, None, None, None, None)))
        self.assertEqual(parted(NET, 3, 0, 0, 10 ** 13), ((), (), (None, None, None, 0, None)))
        self.assertEqual(parted((2, ()), 0, 5, 1, 9), ((), (), (5, None)))

    def test_by_a_moment_below_the_first(self):
        self.assertEqual(parted(NET, 0, 0, 4, 0), ((), (), (0, 1, 1, 6, None)))
        self.assertEqual(parted(NET, 0, 9, 3, 8), ((), (), (9, None, None, 14, None)))
        self.told_right((2, (("both", 0, 1, 3, 1),) * 3), (0, 3, 1, 2), 0)
        self.told_right((2, (("both", 0, 1, 3, 1),) * 3), (0, 3, 1, 3), 0)
        self.told_right((2, (("both", 0, 1, 3, 1),) * 3), (0, 3, 1, 4), 3)

    def test_a_straight_meeting(self):
        net = (2, (("both", 0, 1, 3, 1),))
        self.assertEqual(parted(net, 0, 3, 1, 4), (((0,),), (0,), (3, None)))
        self.assertEqual(parted(net, 1, 0, 0, 9), (((0,),), (0,), (None, 0)))
        self.assertEqual(parted(net, 0, 4, 1, 9), ((), (), (4, None)))

    def test_alike_meetings_are_several(self):
        net = (2, (("both", 0, 1, 3, 1),) * 40)
        ways, lost, floor = parted(net, 0, 0, 1, 4)
        self.assertEqual((sorted(ways), lost, floor), ([(at,) for at in range(40)], tuple(range(40)), (0, None)))

    def test_a_way_that_must_be_turned_back_over(self):
        # (0, 2, 4) bars both others; (0, 3) and (1, 4) are apart.
        meetings = (("to", 0, 1, 0, 1), ("to", 0, 2, 0, 1), ("to", 1, 2, 1, 1), ("to", 1, 3, 5, 1), ("to", 2, 3, 5, 1))
        for order in itertools.permutations(meetings):
            self.told_right((4, order), (0, 0, 3, 6), 2)
        for order in itertools.permutations(("both", *meeting[1:]) for meeting in meetings):
            self.told_right((4, order), (0, 0, 3, 6), 2)

    def test_several_that_must_be_turned_back_over(self):
        dice = random.Random(58)
        for rows in (2, 3, 4):
            # Each row of places has its own way; meetings across lead along others and too far.
            meetings = []
            for row in range(rows):
                first, second = 1 + 2 * row, 2 + 2 * row
                meetings += [("to", 0, first, 0, 1), ("both", first, second, 4, 1), ("to", second, 9, 9, 1)]
                for further in range(row):
                    meetings += [("both", first, 1 + 2 * further, 2, 1), ("to", second, 2 + 2 * further, 6, 1)]
            for _ in range(30):
                dice.shuffle(meetings)
                self.told_right((10, tuple(meetings)), (0, 0, 9, 10), rows)

    def test_meetings_gone_either_way(self):
        # Both ways can do with the meeting of 1 and 2, each in its own direction, but not at once.
        meetings = (
            ("to", 0, 1, 0, 1), ("to", 0, 2, 0, 1), ("both", 1, 2, 2, 1), ("to", 1, 3, 5, 1), ("to", 2, 3, 5, 1),
            ("both", 2, 1, 3, 1))
        for order in itertools.permutations(meetings):
            self.told_right((4, order), (0, 0, 3, 6), 2)
        # A meeting gone there and another one back is but a wait.
        net = (3, (("both", 0, 1, 0, 1), ("both", 0, 1, 1, 1), ("to", 0, 2, 2, 1), ("to", 1, 2, 2, 1)))
        self.told_right(net, (0, 0, 2, 3), 2)
        net = (3, (("both", 0, 1, 0, 1), ("both", 0, 1, 1, 1), ("to", 1, 2, 2, 1), ("to", 1, 2, 2, 1)))
        self.told_right(net, (0, 0, 2, 3), 2)
        net = (3, (("both", 0, 1, 0, 1), ("both", 0, 1, 1, 1), ("to", 1, 2, 1, 1), ("to", 1, 2, 1, 1)))
        self.told_right(net, (0, 0, 2, 3), 1)

    def test_beside_all_ways_and_all_sets_of_meetings(self):
        dice = random.Random(59)
        counts = []
        for net in helper.small_nets():
            for ask in asks_of(dice, net, 8):
                sets = helper.least_of_sets(helper.ways_by(net, *ask))
                count = helper.most_unshared(sets)
                self.assertEqual(len(helper.fewest_hitting(sets, range(len(net[1])))), count)
                self.told_right(net, ask, count)
                counts.append(count)
        for count in (0, 1, 2, 3):
            self.assertGreater(counts.count(count), 15)

    def test_great_nets(self):
        dice = random.Random(60)
        counts = []
        for net in helper.great_nets() + helper.read_nets() + helper.places_nets()[:20]:
            for ask in asks_of(dice, net, 6) + [(0, 0, net[0] - 1, helper.FAR)]:
                counts.append(self.told_right(net, ask, None))
        self.assertGreater(max(counts), 8)
        self.assertGreater(len([count for count in counts if count > 1]), 100)

    def test_chains_of_forty_meetings(self):
        for net in helper.read_nets()[3:]:
            self.told_right(net, (0, 0, 40, 80), 1)
            self.told_right(net, (0, 0, 40, 79), 0)
            self.assertEqual(len(parted(net, 0, 0, 40, 80)[0][0]), 40)

    def test_nets_read_of_a_text(self):
        far = "7" * 1200
        net = read_net(f"places 3\nto 0 1 {far} {far}\nto 1 2 2{far} 1\nto 0 2 1 {far}\nboth 2 0 0 3{far}")
        top = net[1][1][3] + 1
        self.told_right(net, (0, 0, 2, top), 2)
        self.told_right(net, (0, 0, 2, top - 1), 1)
        self.told_right(net, (0, 0, 2, top * 9), 3)


class Checker(unittest.TestCase):
    def holds(self, thing, by=6):
        return parted_holds(NET, 0, 0, 3, by, thing)

    def test_things_by_other_hands(self):
        for ways in (WAYS, WAYS[::-1]):
            for lost, floor in (
                ((0, 1), FLOOR), ((0, 1), (0, None, None, 7, None)), ((0, 1), (-5, None, None, 10, 0)),
                ((0, 1), (0, 6, 6, 14, 7)), ((0, 1), (-1, 6, 6, 11, -10 ** 39)), ((3, 4), (0, 1, 1, 14, None)),
                ((3, 4), (0, 0, -7, 14, None)), ((3, 4), (-10 ** 39, -3, -3, 7, 0)),
            ):
                self.assertIs(self.holds((ways, lost, floor)), True, (ways, lost, floor))
        three = (*WAYS, (5,))
        for ways in itertools.permutations(three):
            self.assertIs(self.holds((ways, (0, 1, 5), (0, None, None, None, None)), 14), True)
            self.assertIs(self.holds((ways, (3, 4, 5), (0, 1, 1, None, None)), 14), True)
            self.assertIs(self.holds((ways, (3, 4, 5), (0, 1, 1, 15, None)), 14), True)
        self.assertIs(self.holds(((), (), (0, 1, 1, 6, None)), 5), True)
        # Longer ways that go about, and share nothing.
        net = (3, (("both", 0, 1, 0, 1), ("both", 0, 1, 1, 1), ("to", 0, 2, 2, 1), ("to", 0, 2, 2, 1)))
        for ways in (((2,), (3,)), ((0, 1, 2), (3,)), ((3,), (2,)), ((0, 1, 3), (2,))):
            self.assertIs(parted_holds(net, 0, 0, 2, 3, (ways, (2, 3), (0, 1, None))), True)
        self.assertIs(parted_holds(net, 0, 0, 2, 3, (((0, 1, 2), (0, 1, 3)), (2, 3), (0, 1, None))), False)

    def test_each_clause_of_the_ways_broken(self):
        for ways in (
            WAYS[:1], WAYS[1:], WAYS + ((0, 2, 4),), (), (WAYS[0], WAYS[0]), ((0, 3), (0, 2, 4)), ((0, 2, 4), (1, 2, 3)),
            ((0, 2, 4), (1, 4)), ((0, 3), (1, 2, 3)), ((0, 3), (1,)), ((0, 3), ()), ((0, 3), (5,)), ((0, 3), (1, 3)),
            ((0, 3), (4,)), ((0, 3), (4, 1)), ((3, 0), (1, 4)), list(WAYS), ([0, 3], (1, 4)), ((0, 3), [1, 4]), (WAYS,),
            ((False, 3), (1, 4)), ((0, 3), (True, 4)), ((0, 3), (1, "4")), ((0, 3), (1, None)), ((0, 3), (1, -2)),
            ((0, 3), (1, 6)), ((0, 3), None), (None, None), None, "ways", {(0, 3): (1, 4)}, (0, 3), 2, ((0, 3), (1, 4, 4)),
            ((0, 3), 1, 4), (0, 3, 1, 4),
        ):
            for lost, floor in (((0, 1), FLOOR), ((3, 4), (0, 1, 1, 14, None))):
                self.assertIs(self.holds((ways, lost, floor)), False, ways)

    def test_each_clause_of_the_lost_broken(self):
        for lost in (
            (1, 0), (0, 0, 1), (0, 1, 1), (0,), (1,), (), (0, 1, 2), (0, 2), (1, 2), (0, 4), (1, 3), (0, 3), (2, 5), (0, 5),
            (-1, 0), (0, 6), (0, helper.FORTY), [0, 1], (False, 1), (0, True), ("0", 1), (0, "1"), (None, 1), (0, None),
            None, "01", 0, {0: 1}, ((0, 1),), ((0,), (1,)), (0, 1, None), (0, (1,)),
        ):
            self.assertIs(self.holds((WAYS, lost, FLOOR)), False, lost)
        # As many as the ways, though one would be enough, or none of them is needed.
        self.assertIs(self.holds(((), (5,), (0, 1, 1, None, None)), 5), False)
        self.assertIs(self.holds(((), (5,), (0, 1, 1, 6, None)), 5), False)
        self.assertIs(self.holds((((5,),), (0, 1, 5), (0, None, None, None, None)), 14), False)
        self.assertIs(self.holds(((*WAYS, (5,)), (0, 1), FLOOR), 14), False)

    def test_each_clause_of_the_floor_broken(self):
        for floor in (
            (0, None, None, 6, None), (0, None, None, 15, None), (0, None, None, None, None), (1, None, None, 14, None),
            (None, None, None, 14, None), (0, 5, None, 14, None), (0, None, 5, 14, None), (0, 5, 5, 6, None), FLOOR[:4],
            FLOOR + (None,), FLOOR[1:], FLOOR[::-1], list(FLOOR), (False, None, None, 14, None), (0, None, None, "14", None),
            (0, None, None, 14, True), (0, None, None, 14, ()), (FLOOR,), (), None, "floor", 0, {0: 0}, (None,) * 5,
            (0, 1, 1, 6, None), (0, 0, 0, 0, 0),
        ):
            self.assertIs(self.holds((WAYS, (0, 1), floor)), False, floor)

    def test_each_other_clause_broken(self):
        thing = (WAYS, (0, 1), FLOOR)
        self.assertIs(self.holds(thing), True)
        for put in (
            thing[:2], thing + (None,), thing + (0,), list(thing), (thing,), ("parted", *thing), thing[::-1], None, (), "parted",
            ((0, 1), WAYS, FLOOR), (WAYS, FLOOR, (0, 1)), dict(enumerate(thing)), 0, True, thing[1:],
        ):
            self.assertIs(self.holds(put), False, put)
        for by in (5, 14, 10 ** 13):
            self.assertIs(self.holds(thing, by), False)
        self.assertIs(self.holds(thing, 13), True)

    def test_near_told_ones(self):
        dice = random.Random(61)
        for net in [NET] + helper.some_of(dice, helper.small_nets(), 50):
            for ask in asks_of(dice, net, 3):
                for thing in helper.some_of(dice, helper.near(parted(net, *ask)), 700):
                    told = helper.right_parted(net, *ask, thing)
                    self.assertIs(parted_holds(net, *ask, thing), told, repr(thing)[:200])

    def test_what_is_let_by_is_so(self):
        dice = random.Random(62)
        let_by = []
        for net in helper.small_nets():
            for ask in asks_of(dice, net, 12):
                every = helper.ways_by(net, *ask)
                sets = helper.least_of_sets(every)
                for _ in range(6):
                    ways = tuple(helper.some_of(dice, every, dice.randint(0, 3)))
                    lost = tuple(sorted(helper.some_of(dice, range(len(net[1])), len(ways))))
                    kept = tuple(meeting for number, meeting in enumerate(net[1]) if number not in lost)
                    floor = helper.lowered(dice, helper.earliest_of_all_ways((net[0], kept), *ask[:2]))
                    told = parted_holds(net, *ask, (ways, lost, floor))
                    self.assertIs(told, helper.right_parted(net, *ask, (ways, lost, floor)))
                    if told:
                        let_by.append(len(ways))
                        self.assertEqual(helper.most_unshared(sets), len(ways))
                        self.assertEqual(len(helper.fewest_hitting(sets, range(len(net[1])))), len(ways))
        for count in (0, 1, 2):
            self.assertGreater(let_by.count(count), 15)

    def test_things_of_other_kinds(self):
        for thing in helper.ODD_THINGS:
            for put in (
                thing, (thing, (0, 1), FLOOR), (WAYS, thing, FLOOR), (WAYS, (0, 1), thing), (thing, thing, thing),
                ((thing, (1, 4)), (0, 1), FLOOR), (((0, thing), (1, 4)), (0, 1), FLOOR), (WAYS, (thing, 1), FLOOR),
                (WAYS, (0, thing), FLOOR), (WAYS, (0, 1), (thing, None, None, 14, None)), (WAYS + (thing,), (0, 1), FLOOR),
                (WAYS, (0, 1), (0, None, None, thing, None)), ((), (), thing),
            ):
                self.assertIs(self.holds(put), helper.right_parted(NET, 0, 0, 3, 6, put), repr(put)[:80])

    def test_places_too_many_to_go_through(self):
        net = read_net("places " + "9" * 50 + "\nto 3 4 0 1")
        self.assertIs(parted_holds(net, 3, 0, 4, 1, (((0,),), (0,), (None,) * 9000)), False)
        self.assertIs(parted_holds(net, 3, 0, 4, 1, ((), (), ())), False)


if __name__ == "__main__":
    unittest.main()
