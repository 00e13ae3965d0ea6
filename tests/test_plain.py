"""Points 26 and 28: the plain form of a net, and a net without the meetings that nothing hangs on."""

import itertools
import random
import unittest

import helper
from meetways.alike import are_alike
from meetways.nets import is_net
from meetways.nettexts import read_net, show_net
from meetways.plain import plain, thinned
from meetways.reach import reach
from meetways.turning import top_of

# 3 is slower than 2 makes with 0; 4 is made of 0 and 2; 5 is beaten by 2.
NET = (4, (
    ("to", 0, 1, 0, 2), ("both", 2, 3, 9, 1), ("to", 1, 2, 2, 3), ("to", 0, 2, 0, 6), ("to", 0, 2, 0, 5), ("to", 1, 2, 1, 4),
    ("to", 0, 1, 0, 2)))


def steps_without_numbers(net):
    return [step[1:] for step in helper.plain_steps(net)]


class Plain(unittest.TestCase):
    def told_right(self, net):
        told = plain(net)
        self.assertTrue(helper.same(told, helper.plain_of_pairs(net)), (net, told))
        self.assertIs(is_net(told), True)
        self.assertEqual(helper.all_pairs_of(told), helper.all_pairs_of(net))
        self.assertEqual(list(told[1]), sorted(set(told[1])))
        for step in steps_without_numbers(told):
            self.assertIn(step, steps_without_numbers(net))
        self.assertTrue(helper.same(plain(told), told))
        self.assertIs(are_alike(net, told), True)
        return told

    def test_by_hand(self):
        kept = (("to", 0, 1, 0, 2), ("to", 1, 2, 2, 3), ("to", 2, 3, 9, 1), ("to", 3, 2, 9, 1))
        self.assertEqual(plain(NET), (4, kept))
        self.assertEqual(plain((4, kept)), (4, kept))
        self.assertEqual(plain((1, ())), (1, ()))
        self.assertEqual(plain((3, ())), (3, ()))
        self.told_right(NET)

    def test_a_both_meeting_is_two(self):
        self.assertEqual(plain((2, (("both", 1, 0, 3, 4),))), (2, (("to", 0, 1, 3, 4), ("to", 1, 0, 3, 4))))

    def test_edges_of_what_is_made(self):
        # From 0 to 1 at 2, from 1 on at 2: touching is enough; leaving or coming at the very same moment, too.
        ways = (("to", 0, 1, 1, 1), ("to", 1, 2, 2, 2))
        for begin, long, made in ((1, 3, True), (0, 4, True), (1, 4, True), (1, 2, False), (2, 2, False), (2, 9, False)):
            net = (3, ways + (("to", 0, 2, begin, long),))
            told = self.told_right(net)
            self.assertEqual(("to", 0, 2, begin, long) not in told[1], made, (begin, long))
        net = (3, (("to", 0, 1, 1, 2), ("to", 1, 2, 2, 2), ("to", 0, 2, 1, 3)))
        self.assertEqual(self.told_right(net)[1], tuple(sorted(net[1])))

    def test_made_by_a_pair_that_is_itself_made(self):
        # From 0 to 3 by 1 and 2; no single third place has both parts as meetings.
        chain = (("to", 0, 1, 0, 1), ("to", 1, 2, 1, 1), ("to", 2, 3, 2, 1))
        for order in itertools.permutations(chain + (("to", 0, 3, 0, 3),)):
            self.assertEqual(self.told_right((4, order)), (4, chain))

    def test_beside_all_asks_of_small_nets(self):
        for net in helper.small_nets()[:70]:
            told = self.told_right(net)
            top = top_of(net) + 1
            self.assertEqual(helper.all_asks_of(told, top), helper.all_asks_of(net, top))

    def test_none_can_be_done_without(self):
        for net in helper.small_nets() + helper.great_nets()[:10]:
            many, kept = plain(net)
            for at in range(len(kept)):
                self.assertNotEqual(helper.all_pairs_of((many, kept[:at] + kept[at + 1:])), helper.all_pairs_of(net))

    def test_no_alike_net_of_one_way_meetings_has_fewer(self):
        # All nets of three places and up to three one-way meetings at few moments: of alike ones none has fewer.
        meetings = [("to", one, other, begin, long) for one, other in ((0, 1), (1, 2), (0, 2), (2, 0))
                    for begin in (0, 1, 2) for long in (1, 2)]
        least = {}
        for count in range(4):
            for chosen in itertools.combinations(meetings, count):
                told = plain((3, chosen))
                least.setdefault(told, count)
                self.assertLessEqual(len(told[1]), count)
        self.assertGreater(len(least), 900)
        for told, count in least.items():
            self.assertEqual(len(told[1]), count)

    def test_great_nets(self):
        for net in helper.great_nets() + helper.read_nets():
            self.told_right(net)

    def test_alike_nets_have_the_same(self):
        dice = random.Random(68)
        for net in helper.small_nets() + helper.great_nets() + helper.read_nets():
            for _ in range(2):
                other = helper.put_otherwise(dice, net)
                self.assertTrue(helper.same(plain(other), plain(net)), (net, other))

    def test_unlike_nets_have_others(self):
        dice = random.Random(69)
        unlike = 0
        for net in helper.small_nets():
            for at in range(len(net[1])):
                meeting = net[1][at]
                longer = (*meeting[:4], meeting[4] + 1)
                other = (net[0], net[1][:at] + dice.choice(((), (longer,))) + net[1][at + 1:])
                same = helper.all_pairs_of(net) == helper.all_pairs_of(other)
                self.assertEqual(plain(net) == plain(other), same)
                unlike += not same
        self.assertGreater(unlike, 100)

    def test_some_eighty_meetings_handed_in_again(self):
        net = (10, tuple(("both", at % 10, (at + 1 + at // 10) % 10, 3 * at, 200) for at in range(40)))
        told = self.told_right(net)
        self.assertEqual(len(told[1]), 80)
        self.assertEqual(thinned(told), tuple(range(80)))
        self.assertEqual(read_net(show_net(told)), told)
        self.assertEqual(reach(told, 0, 1), reach(net, 0, 1))

    def test_nets_read_of_a_text(self):
        far = "7" * 1200
        net = read_net(f"places 3\nto 0 1 {far} {far}\nto 1 2 2{far} 1\nto 0 2 {far} 3{far}\nboth 2 0 0 1{far}")
        self.assertEqual(len(self.told_right(net)[1]), 4)
        self.assertEqual(thinned(net), (0, 1, 3))

    def test_places_too_many_to_go_through(self):
        net = read_net("places " + "9" * 50 + "\nto 3 4 0 1\nto 4 5 1 1\nto 3 5 0 2\nboth 9 " + "8" * 50 + " 1 1")
        kept = (("to", 3, 4, 0, 1), ("to", 4, 5, 1, 1), ("to", 9, net[1][3][2], 1, 1), ("to", net[1][3][2], 9, 1, 1))
        self.assertEqual(plain(net), (net[0], kept))
        self.assertEqual(thinned(net), (0, 1, 3))


class Thinned(unittest.TestCase):
    def told_right(self, net):
        told = thinned(net)
        self.assertTrue(helper.same(told, helper.thinned_by_pairs(net)), (net, told))
        stays = (net[0], tuple(net[1][number] for number in told))
        self.assertEqual(helper.all_pairs_of(stays), helper.all_pairs_of(net))
        self.assertIs(are_alike(net, stays), True)
        self.assertEqual(thinned(stays), tuple(range(len(told))))

    def test_by_hand(self):
        self.assertEqual(thinned(NET), (0, 1, 2))
        self.assertEqual(thinned((4, NET[1][::-1])), (0, 4, 5))
        self.assertEqual(thinned((1, ())), ())
        self.assertEqual(thinned((2, (("both", 0, 1, 5, 2),) * 7)), (0,))
        self.told_right(NET)

    def test_from_the_last_to_the_first(self):
        both, there, back = ("both", 0, 1, 3, 1), ("to", 0, 1, 3, 1), ("to", 1, 0, 3, 1)
        for meetings, stay in (
            ((both, there, back), (0,)), ((there, both, back), (1,)), ((there, back, both), (0, 1)), ((both, there), (0,)),
            ((there, both), (1,)), ((there, there, back), (0, 2)), ((back, both, there, both), (1,)),
        ):
            self.assertEqual(thinned((2, meetings)), stay, meetings)

    def test_a_both_meeting_stays_for_one_of_its_steps(self):
        net = (2, (("both", 0, 1, 3, 5), ("to", 0, 1, 4, 1)))
        self.assertEqual(thinned(net), (0, 1))
        self.assertEqual(len(plain(net)[1]), 2)

    def test_beside_all_asks_of_small_nets(self):
        for net in helper.small_nets():
            self.told_right(net)

    def test_great_nets(self):
        for net in helper.great_nets()[::3] + helper.read_nets():
            self.told_right(net)

    def test_nets_put_otherwise(self):
        dice = random.Random(70)
        for net in helper.small_nets():
            self.told_right(helper.put_otherwise(dice, net))
            if net[1]:
                plain_net = plain(net)
                self.assertEqual(thinned(plain_net), tuple(range(len(plain_net[1]))))


if __name__ == "__main__":
    unittest.main()
