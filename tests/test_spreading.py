"""Point 22: what spreads from many hands at once."""

import random
import unittest

import helper
from meetways.earliest import earliest
from meetways.nettexts import read_net
from meetways.spreadchecks import spread_holds
from meetways.spreading import spread, spread_way

# Two hands come to 2 at 5, by the meetings 1, 2, 3.
NET = (5, (
    ("to", 0, 1, 0, 2), ("to", 1, 2, 3, 2), ("both", 3, 2, 1, 4), ("to", 3, 2, 4, 1), ("both", 2, 4, 5, 1),
    ("to", 0, 3, 4, 1)))
HANDS = ((3, 1), (0, 0))
TAKEN = ((0, 1, -1), (2, 1, 0), (5, 0, 2), (1, 0, -1), (6, 0, 4))


def some_hands(dice, net):
    """One to six hands, some alike, some at one place or at one moment."""
    hands = []
    for _ in range(dice.randint(1, 6)):
        place, moment = dice.randrange(net[0]), dice.choice(helper.moments_of(net)[:20])
        if hands and dice.random() < 0.5:
            place, moment = dice.choice((hands[-1], (hands[-1][0], moment), (place, hands[-1][1])))
        hands.append((place, moment))
    return tuple(hands)


class Told(unittest.TestCase):
    def told_right(self, net, hands, row):
        told = spread(net, hands)
        self.assertTrue(helper.same(told, row), (net, hands, told, row))
        self.assertIs(spread_holds(net, hands, told), True)
        soonest = [earliest(net, place, moment) for place, moment in hands]
        for place in range(net[0]):
            comes = [early[place] for early in soonest if early[place] is not None]
            self.assertEqual(row[place] and row[place][0], min(comes, default=None))
            self.way_right(net, hands, place, row)

    def way_right(self, net, hands, place, row):
        way = spread_way(net, hands, place)
        if row[place] is None:
            self.assertIsNone(way)
            return
        moment, hand, number = row[place]
        begins_at, begins_when = hands[hand]
        self.assertIsNotNone(helper.gone(net, begins_at, begins_when, way), (net, hands, way))
        self.assertEqual(helper.end_of_way(net, begins_at, begins_when, way), (place, moment))
        self.assertEqual(way[-1] if way else -1, number)
        # Each place on the way was taken by the same hand, by just that meeting.
        for step in helper.gone(net, begins_at, begins_when, way):
            self.assertEqual(row[step[2]], (step[4], hand, step[0]))
        self.assertEqual(row[begins_at], (begins_when, hand, -1))

    def test_by_hand(self):
        self.told_right(NET, HANDS, TAKEN)
        self.assertEqual([spread_way(NET, HANDS, place) for place in range(5)], [(), (0,), (2,), (), (2, 4)])
        # The other order of hands: 2 is come to at 5 by hand 0 from 1, by hand 1 from 3.
        self.told_right(NET, HANDS[::-1], ((0, 0, -1), (2, 0, 0), (5, 0, 1), (1, 1, -1), (6, 0, 4)))
        self.assertEqual(spread_way(NET, HANDS[::-1], 4), (0, 1, 4))
        self.told_right(NET, ((3, 2),), (None, None, (5, 0, 3), (2, 0, -1), (6, 0, 4)))
        self.told_right(NET, ((4, 5), (1, 0)), (None, (0, 1, -1), (5, 1, 1), None, (5, 0, -1)))
        self.told_right(NET, ((4, 6),), (None, None, None, None, (6, 0, -1)))
        self.told_right((1, ()), ((0, 9),), ((9, 0, -1),))

    def test_of_a_hand_the_least_number_counts(self):
        net = (3, (("to", 0, 1, 0, 1), ("to", 1, 2, 3, 1), ("to", 0, 2, 1, 3), ("to", 1, 2, 1, 3)))
        self.told_right(net, ((0, 0),), ((0, 0, -1), (1, 0, 0), (4, 0, 1)))
        self.assertEqual(spread_way(net, ((0, 0),), 2), (0, 1))
        net = (net[0], net[1][::-1])
        self.told_right(net, ((0, 0),), ((0, 0, -1), (1, 0, 3), (4, 0, 0)))

    def test_a_hand_that_begins_when_another_comes(self):
        net = (3, (("to", 0, 1, 0, 2), ("both", 1, 2, 2, 1)))
        self.told_right(net, ((0, 0), (1, 2)), ((0, 0, -1), (2, 0, 0), (3, 0, 1)))
        self.told_right(net, ((1, 2), (0, 0)), ((0, 1, -1), (2, 0, -1), (3, 0, 1)))
        self.assertEqual(spread_way(net, ((1, 2), (0, 0)), 2), (1,))
        self.assertEqual(spread_way(net, ((0, 0), (1, 2)), 2), (0, 1))

    def test_a_hand_that_comes_too_late_to_where_it_begins(self):
        net = (4, (("to", 0, 1, 0, 2), ("to", 1, 2, 9, 1), ("to", 1, 3, 2, 1)))
        self.told_right(net, ((1, 3), (0, 0)), ((0, 1, -1), (2, 1, 0), (10, 1, 1), (3, 1, 2)))
        self.told_right(net, ((1, 2), (0, 0)), ((0, 1, -1), (2, 0, -1), (10, 0, 1), (3, 0, 2)))
        self.told_right(net, ((0, 0), (1, 2)), ((0, 0, -1), (2, 0, 0), (10, 0, 1), (3, 0, 2)))
        self.told_right(net, ((0, 0), (1, 1)), ((0, 0, -1), (1, 1, -1), (10, 1, 1), (3, 1, 2)))

    def test_alike_hands_and_several_at_one_place(self):
        for hands, least in (
            (((0, 3), (0, 3), (0, 3)), (3, 0, -1)), (((0, 5), (0, 3), (0, 3)), (3, 1, -1)),
            (((0, 4), (0, 5), (0, 3), (0, 2), (0, 9), (0, 2)), (2, 3, -1)),
        ):
            net = (2, (("both", 0, 1, 3, 1),))
            taken = (4, least[1], 0)
            self.told_right(net, hands, (least, taken))
            self.assertEqual(spread_way(net, hands, 1), (0,))
        self.told_right((2, (("both", 0, 1, 3, 1),)), ((0, 4), (1, 4)), ((4, 0, -1), (4, 1, -1)))

    def test_a_place_that_is_taken_is_not_gone_through_by_another(self):
        # Hand 1 could come to 1 at 4, but hand 0 took it at 1 and goes on alone.
        net = (4, (("to", 0, 1, 0, 1), ("to", 2, 1, 3, 1), ("to", 1, 3, 4, 1)))
        self.told_right(net, ((0, 0), (2, 0)), ((0, 0, -1), (1, 0, 0), (0, 1, -1), (5, 0, 2)))
        self.told_right(net, ((2, 0), (0, 0)), ((0, 1, -1), (1, 1, 0), (0, 0, -1), (5, 1, 2)))

    def test_beside_all_ways_of_small_nets(self):
        dice = random.Random(54)
        for net in helper.small_nets():
            for _ in range(6):
                hands = some_hands(dice, net)
                row = helper.takings_again_and_again(net, hands)
                self.assertEqual([part and part[0] for part in row], helper.takings_of_all_ways(net, hands))
                self.told_right(net, hands, row)

    def test_beside_takings_again_and_again(self):
        dice = random.Random(55)
        for net in helper.great_nets() + helper.read_nets():
            for _ in range(5):
                hands = some_hands(dice, net)
                self.told_right(net, hands, helper.takings_again_and_again(net, hands))

    def test_nets_read_of_a_text(self):
        far = "7" * 1200
        net = read_net(f"places 3\nto 0 1 {far} {far}\nto 1 2 2{far} 1")
        begin = net[1][0][3]
        self.told_right(net, ((0, begin), (1, 2 * begin)), ((begin, 0, -1), (2 * begin, 0, 0), (net[1][1][3] + 1, 0, 1)))

    def test_a_way_among_places_too_many_to_go_through(self):
        net = read_net("places " + "9" * 50 + "\nto 3 4 0 1\nto 4 5 1 1\nto 3 5 1 3")
        self.assertEqual(spread_way(net, ((3, 0), (4, 1)), 5), (0, 1))
        self.assertEqual(spread_way(net, ((4, 1), (3, 0)), 5), (1,))
        self.assertIsNone(spread_way(net, ((3, 0),), 10 ** 49))
        self.assertIs(spread_holds(net, ((3, 0),), (None,) * 9000), False)


class Checker(unittest.TestCase):
    def test_each_part_of_it_another(self):
        self.assertIs(spread_holds(NET, HANDS, TAKEN), True)
        for at, part in (
            (0, (0, 0, -1)), (0, (1, 1, -1)), (0, (0, 1, 0)), (0, (0, True, -1)), (0, (False, 1, -1)), (0, None), (0, ()),
            (1, (2, 1, 1)), (1, (2, True, 0)), (1, (2, 1, False)), (1, (3, 1, 0)), (1, (1, 1, 0)), (1, (2, 0, 0)),
            (2, (5, 0, 3)), (2, (5, 1, 1)), (2, (5, 1, 2)), (2, (4, 0, 2)), (2, (5, 0, 2, 0)), (2, (5, 0)), (2, [5, 0, 2]),
            (2, None), (2, "5:0"), (2, 5), (2, (5, None, 2)), (2, (5, 0, None)), (2, (None, 0, 2)), (2, ("5", 0, 2)),
            (2, (0, 5, 2)), (2, (2, 0, 5)), (2, ((5, 0, 2),)), (3, (1, False, -1)), (3, (True, 0, -1)), (3, (5, 1, 5)),
            (4, (6, 1, 4)), (4, (6, 0, 3)), (4, None), (4, (7, 0, 4)), (4, {6: 0}), (4, True),
        ):
            thing = TAKEN[:at] + (part,) + TAKEN[at + 1:]
            self.assertIs(spread_holds(NET, HANDS, thing), False, thing)
        for thing in (
            TAKEN[::-1], TAKEN[:4], TAKEN + (None,), TAKEN[1:], list(TAKEN), (TAKEN,), (), None, dict(enumerate(TAKEN)),
            spread(NET, HANDS[::-1]), (None,) * 5, "taken", TAKEN[:1] + TAKEN,
        ):
            self.assertIs(spread_holds(NET, HANDS, thing), False, thing)

    def test_what_is_not_reached_stays_none(self):
        row = (None, None, (5, 0, 3), (2, 0, -1), (6, 0, 4))
        self.assertIs(spread_holds(NET, ((3, 2),), row), True)
        for at in (0, 1):
            for part in ((0, 0, -1), (2, 0, 0), (0, 0, 0), (), 0, False):
                self.assertIs(spread_holds(NET, ((3, 2),), row[:at] + (part,) + row[at + 1:]), False)

    def test_a_hand_that_there_is_not(self):
        # All but the hand at 0 follows from what the thing says.
        net = (3, (("to", 0, 1, 0, 1), ("to", 1, 2, 1, 1)))
        self.assertIs(spread_holds(net, ((0, 0),), ((0, 0, -1), (1, 0, 0), (2, 0, 1))), True)
        for hand in (1, -1, 7):
            self.assertIs(spread_holds(net, ((0, 0),), ((0, hand, -1), (1, hand, 0), (2, hand, 1))), False)
        self.assertIs(spread_holds(net, ((0, 0),), ((0, 0, -1), (1, 1, 0), (2, 1, 1))), False)
        net = (3, (("both", 1, 2, 1, 1), ("both", 2, 1, 2, 1)))
        self.assertIs(spread_holds(net, ((0, 0),), ((0, 0, -1), None, None)), True)
        self.assertIs(spread_holds(net, ((0, 0),), ((0, 0, -1), (3, 0, 1), (2, 0, 0))), False)

    def test_near_told_ones(self):
        dice = random.Random(56)
        for net in [NET] + helper.some_of(dice, helper.small_nets(), 40) + helper.great_nets()[:6]:
            for _ in range(2):
                hands = some_hands(dice, net)
                row = helper.takings_again_and_again(net, hands)
                for thing in helper.some_of(dice, helper.near(row), 500):
                    self.assertIs(spread_holds(net, hands, thing), helper.same(thing, row), repr(thing)[:200])

    def test_rows_of_other_hands_and_nets(self):
        dice = random.Random(57)
        for net in helper.small_nets():
            rows = [spread(net, some_hands(dice, net)) for _ in range(4)]
            hands = some_hands(dice, net)
            row = helper.takings_again_and_again(net, hands)
            for thing in rows:
                self.assertIs(spread_holds(net, hands, thing), helper.same(thing, row))

    def test_things_of_other_kinds(self):
        for thing in helper.ODD_THINGS:
            for at in range(5):
                self.assertIs(spread_holds(NET, HANDS, TAKEN[:at] + (thing,) + TAKEN[at + 1:]), False)
            for put in (thing, (thing,), (thing,) * 5, TAKEN + (thing,)):
                self.assertIs(spread_holds(NET, HANDS, put), False, repr(put)[:80])
            for at in range(3):
                part = TAKEN[2][:at] + (thing,) + TAKEN[2][at + 1:]
                right = helper.same(thing, TAKEN[2][at])
                self.assertIs(spread_holds(NET, HANDS, TAKEN[:2] + (part,) + TAKEN[3:]), right)


if __name__ == "__main__":
    unittest.main()
