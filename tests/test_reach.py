"""Point 17: the pairs of a place and an unlike one."""

import random
import unittest

import helper
from meetways.earliest import earliest
from meetways.latest import latest
from meetways.nettexts import read_net
from meetways.reach import reach
from meetways.times import least_time
from meetways.turning import top_of, turned_net

# The way (2,) from 0 to 2 is beaten by (3, 4), which leaves later and comes then too.
NET = (4, (
    ("to", 0, 1, 0, 2), ("to", 1, 2, 2, 5), ("both", 0, 2, 4, 6), ("to", 0, 1, 5, 1), ("to", 1, 2, 9, 1),
    ("to", 0, 2, 8, 9)))


class Reach(unittest.TestCase):
    def told_right(self, net, one, other, pairs):
        told = reach(net, one, other)
        self.assertTrue(helper.same(told, pairs), (net, one, other, told, pairs))

    def test_by_hand(self):
        self.assertEqual(reach(NET, 0, 2), ((0, 7), (5, 10), (8, 17)))
        self.assertEqual(reach(NET, 0, 1), ((0, 2), (5, 6)))
        self.assertEqual(reach(NET, 1, 2), ((2, 7), (9, 10)))
        self.assertEqual(reach(NET, 2, 0), ((4, 10),))
        self.assertEqual(reach(NET, 2, 1), ())
        self.assertEqual(reach(NET, 0, 3), ())
        self.assertEqual(reach(NET, 3, 0), ())
        self.assertEqual(reach((2, ()), 0, 1), ())

    def test_beaten_in_one_number_alone(self):
        one_leaving = (2, (("to", 0, 1, 3, 4), ("to", 0, 1, 3, 3), ("to", 0, 1, 3, 5)))
        self.assertEqual(reach(one_leaving, 0, 1), ((3, 6),))
        one_coming = (2, (("to", 0, 1, 3, 4), ("to", 0, 1, 5, 2), ("to", 0, 1, 4, 3)))
        self.assertEqual(reach(one_coming, 0, 1), ((5, 7),))
        alike = (2, (("both", 0, 1, 3, 4),) * 5)
        self.assertEqual((reach(alike, 0, 1), reach(alike, 1, 0)), (((3, 7),), ((3, 7),)))

    def test_touching_and_one_off(self):
        for begin, pairs in ((4, ()), (5, ((3, 6),)), (6, ((3, 7),))):
            self.assertEqual(reach((3, (("to", 1, 2, begin, 1), ("to", 0, 1, 3, 2))), 0, 2), pairs)

    def test_a_way_that_comes_by_the_one_place_again(self):
        net = (3, (("both", 0, 1, 1, 1), ("both", 0, 1, 2, 1), ("to", 0, 2, 3, 1)))
        self.assertEqual(reach(net, 0, 2), ((3, 4),))
        self.assertEqual(reach(net, 1, 2), ((2, 4),))

    def test_beside_all_ways_of_small_nets(self):
        for net in helper.small_nets():
            for one in range(net[0]):
                for other in range(net[0]):
                    if one != other:
                        self.told_right(net, one, other, helper.pairs_of_all_ways(net, one, other))

    def test_beside_all_steps_again_and_again(self):
        dice = random.Random(26)
        for net in helper.great_nets() + helper.read_nets()[:3]:
            for one in helper.some_of(dice, range(net[0]), 4):
                found = helper.pairs_again_and_again(net, one)
                for other in range(net[0]):
                    if one != other:
                        self.told_right(net, one, other, found[other])

    def test_chains_of_forty_meetings(self):
        dice = random.Random(27)
        for word in ("to", "both"):
            net = helper.chain(41, word, dice.sample(range(40), 40))
            for one, other in ((0, 40), (0, 1), (17, 38), (39, 40)):
                self.told_right(net, one, other, ((2 * one, 2 * other),))
            self.told_right(net, 40, 0, ())
            self.told_right(net, 8, 7, ((14, 16),) if word == "both" else ())

    def test_forty_that_none_beats(self):
        meetings = tuple(("to", 0, 1, 3 * at, 5) for at in range(40))
        pairs = tuple((3 * at, 3 * at + 5) for at in range(40))
        for told in (meetings, meetings[::-1]):
            self.told_right((2, told), 0, 1, pairs)

    def test_the_pairs_answer_each_ask(self):
        dice = random.Random(28)
        for net in helper.small_nets() + helper.great_nets() + helper.read_nets()[:3]:
            for _ in range(8):
                if net[0] > 1:
                    one, other = dice.sample(range(net[0]), 2)
                    for moment in helper.some_of(dice, helper.moments_of(net), 6):
                        self.answers(net, one, other, moment)

    def answers(self, net, one, other, moment):
        pairs = reach(net, one, other)
        comes = [come for leave, come in pairs if leave >= moment]
        leaves = [leave for leave, come in pairs if come <= moment]
        self.assertEqual(earliest(net, one, moment)[other], comes[0] if comes else None)
        self.assertEqual(latest(net, other, moment)[one], leaves[-1] if leaves else None)
        self.assertEqual(least_time(net, one, moment, other), helper.least_of(pairs, moment))

    def test_turned_about(self):
        for net in helper.small_nets()[::3] + helper.great_nets()[::5]:
            top = top_of(net) + 2
            turned = turned_net(net, top)
            for one in range(net[0]):
                for other in range(net[0]):
                    if one != other:
                        back = [(top - come, top - leave) for leave, come in reach(net, one, other)]
                        self.assertEqual(reach(turned, other, one), tuple(back[::-1]))

    def test_nets_read_of_a_text(self):
        lines = [f"both {at} {at + 1} {at} 1" for at in range(200)]
        net = read_net("\n".join(["places 201"] + lines[::-1]))
        self.told_right(net, 0, 200, ((0, 200),))
        self.told_right(net, 200, 0, ())
        far = "7" * 1200
        net = read_net(f"places 2\nto 0 1 {far} {far}\nto 0 1 0 {far}")
        number = net[1][0][3]
        self.told_right(net, 0, 1, ((0, number), (number, 2 * number)))

    def test_places_too_many_to_go_through(self):
        net = read_net("places " + "9" * 50 + "\nto 3 4 0 1\nto 4 5 1 1\nto 3 5 1 3")
        self.assertEqual(reach(net, 3, 5), ((0, 2), (1, 4)))
        self.assertEqual(reach(net, 3, 10 ** 49), ())
        self.assertEqual(reach(net, 10 ** 49, 3), ())


if __name__ == "__main__":
    unittest.main()
