"""Points 12 and 13: the latest, and its papers."""

import random
import unittest

import helper
from meetways.latepapers import late_paper
from meetways.latest import latest
from meetways.nettexts import read_net

NET = (5, (("to", 1, 2, 2, 5), ("to", 0, 1, 0, 2), ("both", 2, 3, 9, 1), ("to", 0, 2, 0, 8), ("to", 0, 1, 1, 1)))


class Latest(unittest.TestCase):
    def told_right(self, net, place, moment, row):
        """The row is told, and for each place a paper that says so."""
        told = latest(net, place, moment)
        self.assertTrue(helper.same(told, row), (net, place, moment, told, row))
        for one in range(net[0]):
            self.paper_right(net, one, place, moment, row[one])

    def paper_right(self, net, one, place, moment, leave):
        paper = late_paper(net, one, place, moment)
        self.assertTrue(helper.right_late_paper(net, one, place, moment, paper), (net, one, place, moment, paper))
        self.assertEqual(paper[0], "never" if leave is None else "leaves")
        self.assertEqual(paper[-1][one], leave)

    def test_by_hand(self):
        self.assertEqual(latest(NET, 3, 10), (1, 2, 9, 10, None))
        self.assertEqual(latest(NET, 3, 9), (None, None, None, 9, None))
        self.assertEqual(latest(NET, 2, 8), (1, 2, 8, None, None))
        self.assertEqual(latest(NET, 2, 7), (1, 2, 7, None, None))
        self.assertEqual(latest(NET, 2, 6), (None, None, 6, None, None))
        self.assertEqual(latest(NET, 2, 10 ** 13), (1, 2, 10 ** 13, 9, None))
        self.assertEqual(latest(NET, 4, 5), (None, None, None, None, 5))
        self.assertEqual(latest((1, ()), 0, 0), (0,))

    def test_papers_by_hand(self):
        self.assertEqual(late_paper(NET, 0, 3, 10), ("leaves", (4, 0, 2), (1, 2, 9, 10, None)))
        self.assertEqual(late_paper(NET, 4, 3, 10), ("never", (1, 2, 9, 10, None)))
        self.assertEqual(late_paper(NET, 3, 3, 10), ("leaves", (), (1, 2, 9, 10, None)))
        self.assertEqual(late_paper(NET, 0, 3, 9), ("never", (None, None, None, 9, None)))
        self.assertEqual(late_paper((1, ()), 0, 0, 7), ("leaves", (), (7,)))

    def test_of_the_place_itself(self):
        net = (2, (("both", 0, 1, 5, 1), ("both", 0, 1, 6, 1)))
        for place in (0, 1):
            for moment in (0, 6, 7, 9):
                self.assertEqual(latest(net, place, moment)[place], moment)
                self.assertEqual(late_paper(net, place, place, moment)[:2], ("leaves", ()))

    def test_beside_all_ways_of_small_nets(self):
        dice = random.Random(16)
        for net in helper.small_nets():
            for place in range(net[0]):
                for moment in helper.some_of(dice, helper.moments_of(net), 10):
                    self.told_right(net, place, moment, helper.latest_of_all_ways(net, place, moment))

    def test_beside_all_steps_again_and_again(self):
        dice = random.Random(17)
        for net in helper.great_nets():
            for place in range(net[0]):
                for moment in helper.some_of(dice, helper.moments_of(net), 8):
                    self.told_right(net, place, moment, helper.latest_again_and_again(net, place, moment))

    def test_chains_told_in_any_order(self):
        row = tuple(2 * at for at in range(10))
        dice = random.Random(18)
        for _ in range(20):
            order = dice.sample(range(9), 9)
            self.told_right(helper.chain(10, dice.choice(("to", "both")), order), 9, 18, row)

    def test_nets_read_of_a_text(self):
        lines = [f"to {at} {at + 1} {at} 1" for at in range(299)]
        net = read_net("\n".join(["places 300"] + lines[::-1]))
        self.told_right(net, 299, 299, tuple(range(300)))
        dice = random.Random(19)
        net = helper.some_net(dice, 50, 400, 100, 9)
        for place in range(0, 50, 7):
            self.told_right(net, place, 70, helper.latest_again_and_again(net, place, 70))

    def test_great_numbers(self):
        far = "7" * 1200
        net = read_net(f"places 3\nto 0 1 {far} {far}\nto 1 2 1{far}0 {far}")
        first, second = net[1]
        end = second[3] + second[4]
        self.told_right(net, 2, end, (first[3], second[3], end))
        self.told_right(net, 2, end - 1, (None, None, end - 1))


if __name__ == "__main__":
    unittest.main()
