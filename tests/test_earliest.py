"""Point 9: the earliest."""

import random
import unittest

import helper
from meetways.earliest import earliest, early_way
from meetways.nettexts import read_net

NET = (5, (("to", 1, 2, 2, 5), ("to", 0, 1, 0, 2), ("both", 2, 3, 9, 1), ("to", 0, 2, 0, 8), ("to", 0, 1, 1, 1)))


class Earliest(unittest.TestCase):
    def told_right(self, net, place, moment, row):
        """The row is told, and for each place a way that comes then."""
        told = earliest(net, place, moment)
        self.assertTrue(helper.same(told, row), (net, place, moment, told, row))
        for other in range(net[0]):
            self.way_right(net, place, moment, other, row[other])

    def way_right(self, net, place, moment, other, come):
        way = early_way(net, place, moment, other)
        if come is None:
            self.assertIs(way, None)
            return
        self.assertIs(type(way), tuple)
        self.assertIsNotNone(helper.gone(net, place, moment, way), (net, place, moment, other, way))
        self.assertEqual(helper.end_of_way(net, place, moment, way), (other, come))

    def test_by_hand(self):
        self.assertEqual(earliest(NET, 0, 0), (0, 2, 7, 10, None))
        self.assertEqual(earliest(NET, 0, 1), (1, 2, 7, 10, None))
        self.assertEqual(earliest(NET, 0, 2), (2, None, None, None, None))
        self.assertEqual(earliest(NET, 3, 9), (None, None, 10, 9, None))
        self.assertEqual(earliest(NET, 3, 10), (None, None, None, 10, None))
        self.assertEqual(earliest((1, ()), 0, 10 ** 13), (10 ** 13,))
        self.assertEqual(early_way(NET, 0, 1, 3), (4, 0, 2))
        self.assertEqual(early_way(NET, 0, 0, 4), None)
        self.assertEqual(early_way(NET, 0, 2, 1), None)

    def test_of_the_place_itself(self):
        net = (2, (("both", 0, 1, 5, 1), ("both", 0, 1, 6, 1)))
        for place in (0, 1):
            for moment in (0, 5, 6, 7):
                self.assertEqual(earliest(net, place, moment)[place], moment)
                self.assertEqual(early_way(net, place, moment, place), ())

    def test_beside_all_ways_of_small_nets(self):
        for net in helper.small_nets():
            for place in range(net[0]):
                for moment in helper.moments_of(net):
                    self.told_right(net, place, moment, helper.earliest_of_all_ways(net, place, moment))

    def test_beside_all_steps_again_and_again(self):
        dice = random.Random(4)
        for net in helper.great_nets():
            for place in range(net[0]):
                for moment in helper.some_of(dice, helper.moments_of(net), 8):
                    self.told_right(net, place, moment, helper.earliest_again_and_again(net, place, moment))

    def test_chains_told_in_any_order(self):
        row = tuple(2 * at for at in range(10))
        dice = random.Random(5)
        for _ in range(20):
            order = dice.sample(range(9), 9)
            self.told_right(helper.chain(10, dice.choice(("to", "both")), order), 0, 0, row)

    def test_nets_read_of_a_text(self):
        lines = [f"to {at} {at + 1} {at} 1" for at in range(299)]
        net = read_net("\n".join(["places 300"] + lines[::-1]))
        self.told_right(net, 0, 0, tuple(range(300)))
        dice = random.Random(6)
        net = helper.some_net(dice, 50, 400, 100, 9)
        for place in range(0, 50, 7):
            self.told_right(net, place, 10, helper.earliest_again_and_again(net, place, 10))

    def test_great_numbers(self):
        far = "7" * 1200
        net = read_net(f"places 3\nto 0 1 {far} {far}\nto 1 2 1{far} {far}")
        number = net[1][0][3]
        self.told_right(net, 0, number, (number, 2 * number, net[1][1][3] + number))
        self.told_right(net, 0, number + 1, (number + 1, None, None))

    def test_way_among_places_too_many_to_go_through(self):
        net = read_net("places " + "9" * 50 + "\nto 3 4 0 1\nto 4 5 1 1\nto 3 5 0 3")
        self.assertEqual(early_way(net, 3, 0, 5), (0, 1))
        self.assertEqual(early_way(net, 3, 0, 10 ** 49), None)
        self.assertEqual(early_way(net, 10 ** 49, 0, 10 ** 49), ())


if __name__ == "__main__":
    unittest.main()
