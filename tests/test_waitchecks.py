"""Point 21: the checker of papers of ways that wait only so long."""

import random
import unittest

import helper
from meetways.nettexts import read_net
from meetways.waitchecks import wait_paper_holds
from meetways.waiting import waiting
from meetways.waitpapers import wait_paper

# Who comes to 1 at 2 has to wait too long for the meeting at 9; who comes there at 8 by (1,) or (4,) has not.
NET = (4, (
    ("to", 0, 1, 0, 2), ("to", 0, 1, 1, 7), ("both", 1, 2, 9, 1), ("to", 0, 2, 1, 30), ("to", 0, 1, 0, 8),
    ("to", 3, 2, 0, 3), ("to", 2, 0, 20, 1)))
SOME = ((0, 0), (1, 0), (2, 1), (3, 0), (4, 0))


class Told(unittest.TestCase):
    def test_told_papers_are_let_by(self):
        dice = random.Random(51)
        for net in helper.small_nets() + helper.great_nets() + helper.read_nets():
            for place in helper.some_of(dice, range(net[0]), 3):
                for moment in helper.some_of(dice, helper.moments_of(net), 4):
                    for bound in (0, dice.randint(1, 9), helper.FAR):
                        other = dice.randrange(net[0])
                        paper = wait_paper(net, place, moment, other, bound)
                        self.assertIs(wait_paper_holds(net, place, moment, other, bound, paper), True)

    def test_nets_read_of_a_text(self):
        far = "7" * 1200
        net = read_net(f"places 3\nto 0 1 {far} {far}\nto 1 2 2{far} 1")
        first, second = net[1]
        wait = second[3] - (first[3] + first[4])
        paper = ("comes", (0, 1), ((0, 0), (1, 1)))
        self.assertIs(wait_paper_holds(net, 0, first[3], 2, wait, paper), True)
        self.assertIs(wait_paper_holds(net, 0, first[3], 2, wait - 1, paper), False)
        self.assertIs(wait_paper_holds(net, 0, first[3], 2, wait - 1, ("never", ((0, 0),))), True)
        self.assertIs(wait_paper_holds(net, 0, first[3], 2, wait, ("never", ((0, 0),))), False)

    def test_places_too_many_to_go_through(self):
        net = read_net("places " + "9" * 50 + "\nto 3 4 0 1\nto 4 5 1 1\nto 3 5 1 3")
        for other, bound in ((5, 0), (4, 0), (5, 1), (10 ** 49, 1), (3, 0), (2, 0)):
            paper = wait_paper(net, 3, 0, other, bound)
            self.assertIs(wait_paper_holds(net, 3, 0, other, bound, paper), True)


class Checker(unittest.TestCase):
    def holds(self, thing, other=2, bound=1, place=0, moment=0):
        return wait_paper_holds(NET, place, moment, other, bound, thing)

    def test_papers_by_other_hands(self):
        for way in ((1, 2), (4, 2)):
            for some in (SOME, SOME + ((6, 2),), ((0, 0), (1, 0), (2, 1), (2, 2), (3, 0), (4, 0))):
                self.assertIs(self.holds(("comes", way, some)), True, (way, some))
        self.assertIs(self.holds(("comes", (), SOME), 0), True)
        self.assertIs(self.holds(("comes", (0,), SOME), 1), True)
        self.assertIs(self.holds(("never", SOME), 3), True)
        for some in (((0, 0), (4, 0)), ((0, 0), (4, 0), (6, 2))):
            self.assertIs(self.holds(("never", some), 2, 0), True)
            self.assertIs(self.holds(("never", some), 3, 0), True)
            self.assertIs(self.holds(("comes", (0,), some), 1, 0), True)
            self.assertIs(self.holds(("comes", (), some), 0, 0), True)
        self.assertIs(self.holds(("comes", (), ()), 3, 10 ** 13, 3, 1), True)

    def test_more_steps_than_are_needed_may_bar_a_paper(self):
        # (5, 3) leads to 2 at 3, which no way from 0 does: the paper is none then.
        self.assertIs(self.holds(("comes", (1, 2), SOME + ((5, 3),))), False)
        self.assertIs(self.holds(("never", ((0, 0), (4, 0), (5, 3))), 2, 0), False)
        self.assertIs(self.holds(("comes", (0,), ((0, 0), (4, 0), (5, 3))), 1, 0), True)
        # A step in some that leads to the place itself and ends ahead of the moment.
        net = (2, (("both", 0, 1, 0, 2),))
        self.assertIs(wait_paper_holds(net, 0, 5, 0, 3, ("comes", (), ((0, 1),))), False)
        self.assertIs(wait_paper_holds(net, 0, 5, 0, 3, ("comes", (), ((0, 0),))), True)
        self.assertIs(wait_paper_holds(net, 0, 2, 0, 3, ("comes", (), ((0, 1),))), True)
        self.assertIs(wait_paper_holds(net, 0, 5, 0, 3, ("comes", (), ())), True)
        self.assertIs(wait_paper_holds(net, 0, 5, 1, 3, ("never", ((0, 1),))), True)
        self.assertIs(wait_paper_holds(net, 0, 5, 1, 3, ("never", ((0, 0),))), False)

    def test_each_clause_of_the_steps_broken(self):
        for some in (
            SOME[1:], SOME[:2] + SOME[3:], SOME[:3] + SOME[4:], SOME[:4], (), SOME[:1] + SOME, SOME + SOME[4:], SOME[::-1],
            (SOME[1], SOME[0], *SOME[2:]), list(SOME), [*SOME], {pair: True for pair in SOME}, None, "some", 0, True,
            SOME + ((5, 2),), SOME + ((5, 0),), SOME + ((6, 0),), SOME + ((7, 0),), ((-1, 0), *SOME), ((0, -1), *SOME),
            (SOME[0], (1, 1), *SOME[1:]), (SOME,), SOME + (None,), SOME + (5,), SOME + ((),), SOME + ((6,),),
            SOME + ((6, 2, 0),), SOME + ([6, 2],), SOME + ((6, "2"),), SOME + (("6", 2),), SOME + ((6, None),),
            ((False, 0), *SOME[1:]), ((0, False), *SOME[1:]), (SOME[0], (True, 0), *SOME[2:]),
            (*SOME[:2], (2, True), *SOME[3:]), ([0, 0], *SOME[1:]),
        ):
            self.assertIs(self.holds(("comes", (1, 2), some)), False, some)
            self.assertIs(self.holds(("never", some), 3), False, some)

    def test_a_step_left_out_at_the_edges_of_the_bound(self):
        net = (3, (("to", 0, 1, 5, 2), ("to", 1, 2, 9, 1)))
        for moment, bound, first in ((5, 0, True), (4, 0, False), (4, 1, True), (6, 9, False), (0, 5, True), (0, 4, False)):
            self.assertIs(wait_paper_holds(net, 0, moment, 1, bound, ("never", ())), not first)
        for bound, second in ((1, False), (2, True), (3, True)):
            self.assertIs(wait_paper_holds(net, 0, 5, 2, bound, ("never", ((0, 0),))), not second)
            self.assertIs(wait_paper_holds(net, 0, 5, 2, bound, ("comes", (0, 1), ((0, 0), (1, 1)))), second)

    def test_each_clause_of_the_way_broken(self):
        for way in (
            (0, 2), (3,), (5,), (1,), (4,), (2,), (), (1, 2, 6), (2, 1), (1, 2, 2), (1, 7), (1, -5), [1, 2], (1, None),
            (True, 2), (1, "2"), None, "12", 1, ((1, 2),), {1: 2},
        ):
            self.assertIs(self.holds(("comes", way, SOME)), False, way)
        # To the place itself just () is let, though others come there, too.
        net = (2, (("both", 0, 1, 0, 1), ("both", 0, 1, 1, 1)))
        every = ((0, 0), (1, 0), (1, 1))
        self.assertIs(wait_paper_holds(net, 0, 0, 0, 1, ("comes", (), every)), True)
        self.assertIs(wait_paper_holds(net, 0, 0, 0, 1, ("comes", (0, 1), every)), False)
        self.assertIs(wait_paper_holds(net, 0, 2, 0, 1, ("never", ())), False)
        self.assertIs(wait_paper_holds(net, 0, 2, 0, 1, ("comes", (), ())), True)

    def test_each_other_clause_broken(self):
        for thing in (
            ("comes", (1, 2)), ("comes", (1, 2), SOME, ()), ("comes", SOME, (1, 2)), ["comes", (1, 2), SOME], (), None,
            ("never", (1, 2), SOME), ("leaves", (1, 2), SOME), ("Comes", (1, 2), SOME), ((1, 2), "comes", SOME),
            (None, (1, 2), SOME), (True, (1, 2), SOME), ((1, 2), SOME), ("comes", SOME), "comes", SOME, {"comes": SOME},
        ):
            self.assertIs(self.holds(thing), False, thing)
        for thing in (
            ("never",), ("never", SOME, None), ("never", (), SOME), ["never", SOME], ("Never", SOME), (None, SOME), (SOME,),
            ("comes", SOME), ("comes", (), SOME), (SOME, "never"),
        ):
            self.assertIs(self.holds(thing, 3), False, thing)
        for other in (0, 1, 2):
            self.assertIs(self.holds(("never", SOME), other), False)

    def test_near_told_ones(self):
        dice = random.Random(52)
        for net in [NET] + helper.some_of(dice, helper.small_nets(), 40):
            place, other = dice.randrange(net[0]), dice.randrange(net[0])
            moment = dice.choice(helper.moments_of(net)[:6])
            for bound in (1, 4):
                for thing in helper.some_of(dice, helper.near(wait_paper(net, place, moment, other, bound)), 700):
                    told = helper.right_wait_paper(net, place, moment, other, bound, thing)
                    self.assertIs(wait_paper_holds(net, place, moment, other, bound, thing), told, repr(thing)[:200])

    def test_what_is_let_by_is_so(self):
        dice = random.Random(53)
        let_by = []
        for net in helper.small_nets():
            pairs = sorted((step[0], step[1]) for step in helper.plain_steps(net))
            for _ in range(40):
                place, other, bound = dice.randrange(net[0]), dice.randrange(net[0]), dice.randint(0, 6)
                moment = dice.choice(helper.moments_of(net)[:5])
                some = set(wait_paper(net, place, moment, other, bound)[-1])
                some |= {pair for pair in pairs if dice.random() < 0.15}
                some -= {pair for pair in pairs if dice.random() < 0.05}
                some = tuple(sorted(some))
                ways = [way for way, _, to, _ in helper.all_ways(net, place, moment) if to == other]
                papers = [("comes", way, some) for way in helper.some_of(dice, ways, 6)] + [("never", some)]
                for paper in papers:
                    told = wait_paper_holds(net, place, moment, other, bound, paper)
                    self.assertIs(told, helper.right_wait_paper(net, place, moment, other, bound, paper))
                    if told:
                        come = helper.waiting_of_all_ways(net, place, moment, bound)[other]
                        self.assertEqual(waiting(net, place, moment, bound)[other], come)
                        let_by.append((paper[0], place == other))
                        if paper[0] == "never":
                            self.assertIsNone(come)
                        else:
                            self.assertEqual(helper.end_of_way(net, place, moment, paper[1]), (other, come))
        for kind in (("comes", False), ("comes", True), ("never", False)):
            self.assertGreater(let_by.count(kind), 50)
        self.assertEqual(let_by.count(("never", True)), 0)

    def test_things_of_other_kinds(self):
        for thing in helper.ODD_THINGS:
            for paper in (
                thing, ("comes", thing, SOME), ("comes", (1, 2), thing), ("never", thing), (thing, (1, 2), SOME),
                ("comes", thing, thing), (thing, SOME), ("never", (thing,)), ("comes", (), SOME + (thing,)),
                ("comes", (thing, 2), SOME), ("never", ((thing, 0), *SOME[1:])), ("never", ((0, thing), *SOME[1:])),
            ):
                for other in (0, 2, 3):
                    told = helper.right_wait_paper(NET, 0, 0, other, 1, paper)
                    self.assertIs(self.holds(paper, other), told, repr(paper)[:80])


if __name__ == "__main__":
    unittest.main()
