"""Points 20 and 21: ways that wait only so long, and their papers."""

import random
import unittest

import helper
from meetways.earliest import earliest
from meetways.nettexts import read_net
from meetways.waiting import waiting
from meetways.waitpapers import wait_paper

# Who comes to 1 at 2 has to wait too long for the meeting at 9; who comes there at 8 by (1,) has not.
NET = (4, (("to", 0, 1, 0, 2), ("to", 0, 1, 1, 7), ("both", 1, 2, 9, 1), ("to", 0, 2, 1, 30)))


class Waiting(unittest.TestCase):
    def told_right(self, net, place, moment, bound, row):
        """The row is told, and for each place a paper that says so."""
        told = waiting(net, place, moment, bound)
        self.assertTrue(helper.same(told, row), (net, place, moment, bound, told, row))
        for other in range(net[0]):
            self.paper_right(net, place, moment, other, bound, row[other])

    def paper_right(self, net, place, moment, other, bound, come):
        paper = wait_paper(net, place, moment, other, bound)
        where = (net, place, moment, other, bound, paper)
        self.assertTrue(helper.right_wait_paper(net, place, moment, other, bound, paper), where)
        self.assertEqual(paper[0], "never" if come is None else "comes")
        if come is not None:
            self.assertEqual(helper.end_of_way(net, place, moment, paper[1]), (other, come))

    def test_by_hand(self):
        self.told_right(NET, 0, 0, 7, (0, 2, 10, None))
        self.told_right(NET, 0, 0, 1, (0, 2, 10, None))
        self.told_right(NET, 0, 0, 0, (0, 2, None, None))
        self.told_right(NET, 0, 1, 0, (1, 8, 31, None))
        self.told_right(NET, 0, 2, 10 ** 13, (2, None, None, None))
        self.told_right(NET, 2, 9, 0, (None, 10, 9, None))
        self.told_right(NET, 2, 8, 0, (None, None, 8, None))
        self.told_right(NET, 2, 8, 1, (None, 10, 8, None))
        self.told_right(NET, 3, 0, 10 ** 13, (None, None, None, 0))
        self.told_right((1, ()), 0, 5, 0, (5,))

    def test_papers_by_hand(self):
        self.assertEqual(wait_paper(NET, 0, 0, 2, 1), ("comes", (1, 2), ((0, 0), (1, 0), (2, 1), (3, 0))))
        self.assertEqual(wait_paper(NET, 0, 0, 2, 0), ("never", ((0, 0),)))
        self.assertEqual(wait_paper(NET, 0, 0, 1, 0), ("comes", (0,), ((0, 0),)))
        self.assertEqual(wait_paper(NET, 0, 0, 0, 0), ("comes", (), ((0, 0),)))
        self.assertEqual(wait_paper(NET, 0, 0, 3, 1), ("never", ((0, 0), (1, 0), (2, 1), (3, 0))))
        self.assertEqual(wait_paper(NET, 3, 0, 3, 1), ("comes", (), ()))
        self.assertEqual(wait_paper(NET, 2, 9, 1, 1), ("comes", (2,), ((2, 2),)))

    def test_the_first_wait_counts(self):
        net = (2, (("to", 0, 1, 5, 1),))
        for moment, bound, come in ((5, 0, 6), (4, 0, None), (4, 1, 6), (0, 4, None), (0, 5, 6), (6, 9, None)):
            self.told_right(net, 0, moment, bound, (moment, come))

    def test_further_waits_count(self):
        net = (3, (("to", 1, 2, 7, 1), ("to", 0, 1, 3, 2)))
        for bound, come in ((0, None), (1, None), (2, 8), (3, 8)):
            self.told_right(net, 0, 3, bound, (3, 5, come))

    def test_a_way_that_comes_to_a_place_again(self):
        # Who goes to 1 and back need not wait at 0; the longest wait is then 1.
        net = (3, (("both", 0, 1, 1, 2), ("both", 0, 1, 4, 2), ("to", 0, 2, 7, 1)))
        self.told_right(net, 0, 0, 1, (0, 3, 8))
        self.assertEqual(wait_paper(net, 0, 0, 2, 1)[1], (0, 1, 2))
        self.told_right(net, 0, 0, 0, (0, None, None))
        self.told_right(net, 0, 1, 0, (1, 3, None))
        self.told_right(net, 0, 0, 6, (0, 3, 8))
        self.assertEqual(wait_paper(net, 0, 0, 0, 1)[1], ())

    def test_it_is_neither_the_soonest_nor_the_latest_coming_that_counts(self):
        # Of comings to 1 at 2, 5, 9 just that at 5 can go on at 7 with a wait of at most 2.
        comings = (("to", 0, 1, 0, 2), ("to", 0, 1, 0, 5), ("to", 0, 1, 0, 9))
        for order in ((0, 1, 2), (2, 1, 0), (1, 2, 0)):
            net = (3, (("to", 1, 2, 7, 1),) + tuple(comings[at] for at in order))
            self.told_right(net, 0, 0, 2, (0, 2, 8))
            self.told_right(net, 0, 0, 1, (0, 2, None))

    def test_beside_all_ways_of_small_nets(self):
        dice = random.Random(43)
        for net in helper.small_nets():
            for place in range(net[0]):
                for moment in helper.some_of(dice, helper.moments_of(net), 6):
                    for bound in (0, dice.randint(1, 4), helper.FAR):
                        row = helper.waiting_of_all_ways(net, place, moment, bound)
                        self.told_right(net, place, moment, bound, row)

    def test_beside_all_standings(self):
        dice = random.Random(44)
        for net in helper.great_nets() + helper.read_nets():
            for place in helper.some_of(dice, range(net[0]), 2):
                for moment in helper.some_of(dice, helper.moments_of(net), 3):
                    for bound in (0, dice.randint(1, 9), helper.FAR):
                        row = helper.waiting_by_standings(net, place, moment, bound)
                        self.told_right(net, place, moment, bound, row)

    def test_a_bound_so_great_that_each_wait_is_let(self):
        dice = random.Random(45)
        for net in helper.small_nets() + helper.great_nets() + helper.read_nets():
            for moment in helper.some_of(dice, helper.moments_of(net), 5):
                place = dice.randrange(net[0])
                bound = max([begin for _, _, _, begin, _ in net[1]], default=0)
                for further in (0, 1, helper.FAR):
                    self.assertEqual(waiting(net, place, moment, bound + further), earliest(net, place, moment))

    def test_chains_of_forty_meetings(self):
        for net in helper.read_nets()[3:]:
            self.told_right(net, 0, 0, 0, tuple(range(0, 82, 2)))
            many, meetings = net
            order = sorted(range(40), key=lambda at: meetings[at][3])
            self.assertEqual(wait_paper(net, 0, 0, 40, 0)[1], tuple(order))
            self.assertEqual(waiting(net, 1, 1, 0), (None, 1) + (None,) * 39)

    def test_nets_read_of_a_text(self):
        far = "7" * 1200
        net = read_net(f"places 3\nto 0 1 {far} {far}\nto 1 2 2{far} 1")
        first, second = net[1]
        wait = second[3] - (first[3] + first[4])
        self.told_right(net, 0, first[3], wait, (first[3], 2 * first[3], second[3] + 1))
        self.told_right(net, 0, first[3], wait - 1, (first[3], 2 * first[3], None))
        self.told_right(net, 0, 0, first[3] - 1, (0, None, None))

    def test_paper_among_places_too_many_to_go_through(self):
        net = read_net("places " + "9" * 50 + "\nto 3 4 0 1\nto 4 5 1 1\nto 3 5 1 3")
        self.assertEqual(wait_paper(net, 3, 0, 5, 0), ("comes", (0, 1), ((0, 3), (1, 4))))
        self.assertEqual(wait_paper(net, 3, 0, 10 ** 49, 1), ("never", ((0, 3), (1, 4), (2, 3))))


if __name__ == "__main__":
    unittest.main()
