"""Point 24: the fewest inner places whose loss parts two places, ways that share none, and papers."""

import itertools
import random
import unittest

import helper
from meetways.losing import gap, lost_paper, places_apart, places_lost
from meetways.nets import is_net
from meetways.nettexts import read_net
from meetways.parting import parted

# From 0 to 4 ways come to 1, to 2 and 3, to 1 and 3, or to 5 and 3; by 7 all but the last of these.
NET = (6, (
    ("to", 0, 1, 0, 1), ("both", 1, 4, 3, 1), ("to", 0, 2, 0, 1), ("to", 2, 3, 1, 1), ("to", 3, 4, 6, 1),
    ("to", 1, 3, 2, 1), ("both", 0, 5, 2, 2), ("to", 5, 3, 6, 1), ("to", 3, 4, 7, 2)))


def unshared(sets):
    return not [1 for one, two in itertools.combinations(sets, 2) if one & two]


class Losing(unittest.TestCase):
    def told_right(self, net, ask, sets):
        """All that is told, beside the sets of inner places by which ways come to the other place by then."""
        lost = helper.fewest_hitting(sets, helper.inner_of(net, ask[0], ask[2]))
        told = places_lost(net, *ask)
        self.assertTrue(helper.same(told, lost), (net, ask, told, lost))
        if lost is None:
            self.assertIn(frozenset(), sets)
            return None
        ways = places_apart(net, *ask)
        self.apart_right(net, ask, ways)
        self.assertEqual(len(ways), helper.most_unshared(sets), (net, ask, ways))
        paper = lost_paper(net, *ask)
        self.assertTrue(helper.right_lost_paper(net, *ask, paper), (net, ask, paper))
        self.assertEqual(len(paper[0]), len(lost))
        for part in (told, ways, *ways, paper, *paper, *paper[2]):
            self.assertIs(type(part), tuple)
        return len(lost), len(ways)

    def apart_right(self, net, ask, ways):
        place, moment, other, by = ask
        for way in ways:
            self.assertTrue(helper.right_way_by(net, *ask, way), (net, ask, way))
        on = [{step[2] for step in helper.gone(net, place, moment, way)} - {place, other} for way in ways]
        self.assertTrue(unshared(on), (net, ask, ways))

    def test_by_hand(self):
        for by, lost, count in (
            (0, (), 0), (3, (), 0), (4, (1,), 1), (6, (1,), 1), (7, (1, 2), 2), (8, (1, 2), 2), (9, (1, 3), 2),
            (10 ** 13, (1, 3), 2),
        ):
            ask = (0, 0, 4, by)
            self.assertEqual(places_lost(NET, *ask), lost)
            self.assertEqual(len(places_apart(NET, *ask)), count)
            self.told_right(NET, ask, helper.inner_sets_of_all_ways(NET, *ask))
        self.assertEqual(places_apart(NET, 0, 0, 4, 4), ((0, 1),))
        self.assertEqual(lost_paper(NET, 0, 0, 4, 4), ((1,), (0, None, 1, 2, 7, 4), ((0, 1),)))
        self.assertEqual(lost_paper(NET, 0, 0, 4, 3), ((), (0, 1, 1, 2, 4, 4), ()))
        lost, floor, ways = lost_paper(NET, 0, 0, 4, 7)
        self.assertEqual((lost, floor, ways[1]), ((1, 2), (0, None, None, 7, 9, 4), (0, 1)))
        self.assertEqual(len(ways), 4)

    def test_a_way_that_comes_to_no_inner_place(self):
        for net in (
            (2, (("to", 0, 1, 3, 2),)), (3, (("both", 1, 0, 3, 2), ("to", 0, 2, 0, 1), ("to", 2, 1, 1, 1))),
            (3, (("to", 0, 2, 0, 1), ("to", 2, 1, 1, 1), ("both", 0, 1, 3, 2))),
        ):
            self.assertIsNone(places_lost(net, 0, 0, 1, 5))
            self.assertIsNone(places_lost(net, 0, 3, 1, 5))
            self.assertIsNotNone(places_lost(net, 0, 4, 1, 5))
            self.assertIsNotNone(places_lost(net, 0, 0, 1, 4))
            self.assertEqual(places_lost(net, 0, 4, 1, 9), ())
        # There, back, and there again.
        net = (2, (("to", 0, 1, 0, 1), ("to", 1, 0, 1, 1), ("to", 0, 1, 2, 1)))
        self.assertIsNone(places_lost(net, 0, 0, 1, 3))

    def test_no_way_at_all(self):
        for net, ask in (
            ((2, ()), (0, 0, 1, 9)), (NET, (4, 5, 0, 10 ** 13)), (NET, (0, 8, 4, 7)), (NET, (0, 0, 4, 0)), (NET, (5, 7, 4, 9)),
        ):
            self.assertEqual(places_lost(net, *ask), ())
            self.assertEqual(places_apart(net, *ask), ())
            lost, floor, ways = lost_paper(net, *ask)
            self.assertEqual((lost, ways), ((), ()))
            self.assertTrue(helper.right_lost_paper(net, *ask, (lost, floor, ways)))

    def test_of_several_the_first_is_told(self):
        # Each of 1 to 4 parts the two, told in any order.
        meetings = [("to", at, at + 1, 2 * at, 2) for at in range(5)]
        for order in itertools.permutations(meetings):
            self.assertEqual(places_lost((6, order), 0, 0, 5, 10), (1,))
        # Of two chains: the first of (1, 2), (1, 4), (3, 2), (3, 4).
        net = (6, (("to", 0, 4, 0, 1), ("to", 4, 2, 1, 1), ("to", 2, 5, 2, 1), ("to", 0, 3, 0, 1), ("to", 3, 1, 1, 1),
                   ("to", 1, 5, 2, 1)))
        self.assertEqual(places_lost(net, 0, 0, 5, 3), (1, 2))
        self.assertEqual(places_lost((6, net[1][::-1]), 0, 0, 5, 3), (1, 2))

    def test_apart_by_meetings_is_not_apart_by_places(self):
        net = (3, (("to", 0, 1, 0, 1),) * 3 + (("to", 1, 2, 1, 1),) * 4)
        self.assertEqual(len(parted(net, 0, 0, 2, 2)[0]), 3)
        self.assertEqual(places_lost(net, 0, 0, 2, 2), (1,))
        self.assertEqual(len(places_apart(net, 0, 0, 2, 2)), 1)

    def test_ways_chosen_first_may_bar_more(self):
        # The way of three meetings bars both of four.
        rows = ((0, 1, 2, 7), (0, 3, 4, 1, 7), (0, 2, 5, 6, 7))
        net = (8, tuple(("to", one, other, at, 1) for row in rows for at, (one, other) in enumerate(zip(row, row[1:]))))
        for order in (net, (8, net[1][::-1])):
            self.told_right(order, (0, 0, 7, 9), helper.inner_sets_of_all_ways(order, 0, 0, 7, 9))
            self.assertEqual(len(places_apart(order, 0, 0, 7, 9)), 2)

    def test_gap(self):
        net, ask = gap()
        self.assertIs(is_net(net), True)
        self.assertLessEqual((net[0], len(net[1])), (10, 40))
        place, moment, other, by = ask
        self.assertTrue(place != other and place in range(net[0]) and other in range(net[0]))
        self.assertTrue(helper.whole(moment) and helper.whole(by) and moment >= 0 and by >= 0)
        sets = helper.inner_sets_of_all_ways(net, *ask)
        lost, count = self.told_right(net, ask, sets)
        self.assertGreater(lost, count)
        self.assertTrue(helper.same(gap(), (net, ask)))
        self.assertEqual([type(part) for part in (gap(), net, net[1], ask)], [tuple] * 4)

    def test_beside_all_ways_and_all_sets_of_inner_places(self):
        dice = random.Random(63)
        counts = []
        for net in helper.small_nets():
            for _ in range(8 if net[0] > 1 else 0):
                place, other = dice.sample(range(net[0]), 2)
                moments = helper.moments_of(net)
                ask = (place, dice.choice(moments[:4]), other, dice.choice(moments[len(moments) // 2:]))
                counts.append(self.told_right(net, ask, helper.inner_sets_of_all_ways(net, *ask)))
        for round_ in range(300):
            many = 4 + round_ % 2
            net = helper.some_net(dice, many, 11, 7, 2)
            net = (many, tuple(meeting for meeting in net[1] if set(meeting[1:3]) != {0, 1}))
            for ask in ((0, 0, 1, 10), (1, dice.randint(0, 3), 0, dice.randint(4, 9))):
                counts.append(self.told_right(net, ask, helper.inner_sets_of_all_ways(net, *ask)))
        for count, least in ((None, 60), ((0, 0), 60), ((1, 1), 60), ((2, 2), 8)):
            self.assertGreater(counts.count(count), least)

    def test_great_nets(self):
        dice = random.Random(64)
        for net in helper.great_nets() + helper.read_nets()[:3]:
            for _ in range(3):
                place, other = dice.sample(range(net[0]), 2)
                moments = helper.moments_of(net)
                ask = (place, dice.choice(moments[:len(moments) // 3]), other, dice.choice(moments))
                self.told_right(net, ask, helper.inner_sets_of_all_places(net, *ask))

    def test_more_lost_than_ways_apart(self):
        counts = []
        for net in helper.places_nets():
            for by in (9, 25):
                ask = (0, 0, 9, by)
                counts.append(self.told_right(net, ask, helper.inner_sets_of_all_places(net, *ask)))
        self.assertGreater(len([1 for lost, ways in counts if lost > ways]), 25)
        self.assertGreater(len([1 for lost, ways in counts if lost == ways > 1]), 25)
        self.assertGreater(len([1 for lost, ways in counts if lost > 2 and ways > 1]), 15)

    def test_chains_of_forty_meetings(self):
        for net in helper.read_nets()[3:]:
            self.assertEqual(places_lost(net, 0, 0, 40, 80), (1,))
            self.assertEqual(places_lost(net, 0, 0, 40, 79), ())
            self.assertEqual([len(way) for way in places_apart(net, 0, 0, 40, 80)], [40])
            self.assertTrue(helper.right_lost_paper(net, 0, 0, 40, 80, lost_paper(net, 0, 0, 40, 80)))

    def test_many_chains(self):
        for rows, long in ((13, 2), (10, 3), (8, 4), (6, 5), (40, 1)):
            meetings = []
            for row in range(rows):
                places = (0, *range(2 + row * long, 2 + row * long + long), 1)
                meetings += [("both", *two, 2 * at, 2) for at, two in enumerate(zip(places, places[1:]))]
            net = (2 + rows * long, tuple(meetings))
            lost = places_lost(net, 0, 0, 1, 99)
            self.assertEqual(lost, tuple(range(2, 2 + rows * long, long)))
            ways = places_apart(net, 0, 0, 1, 99)
            self.assertEqual(len(ways), rows)
            self.apart_right(net, (0, 0, 1, 99), ways)

    def test_nets_read_of_a_text(self):
        far = "7" * 1200
        net = read_net(f"places 4\nto 0 1 {far} {far}\nto 1 2 2{far} 1\nto 0 3 1 1\nto 3 2 {far} 2{far}")
        top = net[1][1][3] + 1
        for by, lost in ((top, (1,)), (top - 1, ()), (top * 9, (1, 3))):
            self.assertEqual(places_lost(net, 0, 0, 2, by), lost)
            self.assertEqual(len(places_apart(net, 0, 0, 2, by)), len(lost))
            self.assertTrue(helper.right_lost_paper(net, 0, 0, 2, by, lost_paper(net, 0, 0, 2, by)))

    def test_places_too_many_to_go_through(self):
        net = read_net("places " + "9" * 50 + "\nto 3 4 0 1\nto 4 5 1 1\nto 3 7 1 3\nto 7 5 9 1\nto 9 7 0 1")
        self.assertEqual(places_lost(net, 3, 0, 5, 10), (4, 7))
        self.assertEqual(places_lost(net, 3, 0, 5, 9), (4,))
        self.assertEqual(sorted(places_apart(net, 3, 0, 5, 10)), [(0, 1), (2, 3)])
        self.assertEqual(places_lost(net, 3, 0, 10 ** 49, 10), ())
        self.assertIsNone(places_lost(net, 3, 0, 4, 10))


if __name__ == "__main__":
    unittest.main()
