"""Points 25 and 27: whether two nets are alike, and papers of it."""

import random
import unittest

import helper
from meetways.alike import alike_paper, are_alike
from meetways.alikechecks import alike_paper_holds
from meetways.earliest import earliest
from meetways.errors import MeetError, NotFit
from meetways.nettexts import read_net
from meetways.plain import plain
from meetways.turning import top_of

# Alike: OTHER has the both meeting as two, and one more that is made; SLOWER comes to 2 one later.
NET = (4, (("both", 0, 1, 0, 2), ("to", 1, 2, 2, 3)))
OTHER = (4, (("to", 0, 2, 0, 6), ("to", 1, 2, 2, 3), ("to", 1, 0, 0, 2), ("to", 0, 1, 0, 2)))
SLOWER = (4, (("to", 1, 0, 0, 2), ("to", 1, 2, 2, 4), ("to", 0, 1, 0, 2)))
PAPER = ("alike", ((3,), (2,), (1,)), ((0, 1), (1,), (0,), (0,)))
PARTS = ("parts", 0, (1, 2, 2, 5), (1,), (None, 2, 6, None))


def put(things, at, thing):
    """The tuple with another thing there."""
    return things[:at] + (thing,) + things[at + 1:]


def some_other(dice, net):
    """An alike net, or one with a meeting less, later, longer or sooner."""
    many, meetings = helper.put_otherwise(dice, net)
    if not meetings or dice.random() < 0.4:
        return many, meetings
    at = dice.randrange(len(meetings))
    word, one, other, begin, long = meetings[at]
    changed = dice.choice(((), ((word, one, other, begin + 1, long),), ((word, one, other, begin, long + 1),),
                           ((word, one, other, begin, max(1, long - 1)),), (("both", one, other, begin, long),)))
    return many, meetings[:at] + changed + meetings[at + 1:]


class Told(unittest.TestCase):
    def told_right(self, one, other, alike):
        told = are_alike(one, other)
        self.assertIs(told, alike, (one, other))
        self.assertIs(are_alike(other, one), alike)
        paper = alike_paper(one, other)
        self.assertTrue(helper.right_alike_paper(one, other, paper), (one, other, paper))
        self.assertIs(alike_paper_holds(one, other, paper), True)
        self.assertEqual(paper[0], "alike" if alike else "parts")
        self.assertEqual(plain(one) == plain(other), alike)
        for part in (paper, *paper[-2:]):
            self.assertIs(type(part), tuple)
        return paper

    def test_by_hand(self):
        self.told_right(NET, OTHER, True)
        self.told_right(NET, NET, True)
        self.told_right(NET, SLOWER, False)
        self.assertEqual(alike_paper(NET, OTHER), PAPER)
        self.assertEqual(alike_paper(NET, SLOWER), PARTS)
        self.assertEqual(alike_paper(SLOWER, NET), ("parts", 1, *PARTS[2:]))
        self.assertEqual(alike_paper((3, ()), (3, ())), ("alike", (), ()))
        self.told_right((3, ()), (3, (("to", 0, 1, 5, 1),)), False)
        self.assertEqual(
            alike_paper((2, ()), (2, (("to", 0, 1, 5, 1),))), ("parts", 1, (0, 5, 1, 6), (0,), (5, None)))
        self.assertEqual(
            alike_paper((2, (("to", 0, 1, 5, 1),)), (2, ())), ("parts", 0, (0, 5, 1, 6), (0,), (5, None)))

    def test_what_no_ask_hangs_on(self):
        net = (3, (("both", 0, 1, 3, 2), ("to", 1, 2, 6, 1)))
        for other in (
            net[1][::-1], net[1] * 2, net[1] + (("to", 0, 1, 3, 3),), net[1] + (("to", 0, 1, 2, 3),), net[1] + (("both", 1, 0, 0, 9),),
            net[1] + (("to", 0, 2, 3, 4),), net[1] + (("to", 0, 2, 1, 9),), (("both", 1, 0, 3, 2), ("to", 1, 2, 6, 1)),
            (("to", 0, 1, 3, 2), ("to", 1, 0, 3, 2), ("to", 1, 2, 6, 1)),
        ):
            self.told_right(net, (3, other), True)
        for other in (
            net[1][:1], net[1][1:], (), net[1] + (("to", 0, 1, 4, 2),), net[1] + (("to", 0, 1, 4, 1),),
            net[1] + (("to", 0, 1, 3, 1),), net[1] + (("to", 0, 2, 3, 3),), net[1] + (("to", 0, 2, 4, 3),),
            net[1] + (("to", 2, 0, 9, 9),), net[1] + (("both", 0, 2, 3, 4),), (("to", 0, 1, 3, 2), ("to", 1, 2, 6, 1)),
            (("both", 0, 1, 3, 2), ("both", 1, 2, 6, 1)), (("both", 0, 1, 3, 2), ("to", 2, 1, 6, 1)),
        ):
            self.told_right(net, (3, other), False)

    def test_beside_all_asks_of_small_nets(self):
        dice = random.Random(71)
        counts = []
        for net in helper.small_nets():
            for _ in range(3):
                other = some_other(dice, net)
                top = max(top_of(net), top_of(other)) + 1
                one_asks, other_asks = helper.all_asks_of(net, top), helper.all_asks_of(other, top)
                paper = self.told_right(net, other, one_asks == other_asks)
                counts.append(paper[:2] if paper[0] == "parts" else paper[0])
                if paper[0] == "parts":
                    place, moment, to, by = paper[2]
                    comes = [asks[place, moment, to] for asks in (one_asks, other_asks)]
                    self.assertTrue(comes[paper[1]] is not None and comes[paper[1]] <= by)
                    self.assertTrue(comes[1 - paper[1]] is None or comes[1 - paper[1]] > by)
        for kind in ("alike", ("parts", 0), ("parts", 1)):
            self.assertGreater(counts.count(kind), 20)

    def test_great_nets(self):
        dice = random.Random(72)
        counts = []
        for net in helper.great_nets() + helper.read_nets():
            for _ in range(3):
                other = some_other(dice, net)
                alike = helper.all_pairs_of(net) == helper.all_pairs_of(other)
                self.told_right(net, other, alike)
                counts.append(alike)
            self.told_right(net, plain(net), True)
        self.assertGreater(min(counts.count(True), counts.count(False)), 30)

    def test_some_eighty_meetings(self):
        net = (10, tuple(("both", at % 10, (at + 1 + at // 10) % 10, 3 * at, 200) for at in range(40)))
        many, kept = plain(net)
        self.assertEqual(len(kept), 80)
        self.told_right((many, kept), net, True)
        self.told_right((many, kept[:40] + kept[41:]), (many, kept), False)

    def test_nets_read_of_a_text(self):
        far = "7" * 1200
        one = read_net(f"places 3\nto 0 1 {far} {far}\nto 1 2 2{far} 1")
        other = read_net(f"places 3\nto 1 2 2{far} 1\nto 0 1 {far} {far}\nto 0 2 5 9{far}")
        self.told_right(one, other, True)
        self.told_right(one, read_net(f"places 3\nto 1 2 2{far} 1\nto 0 1 {far} 1{far}"), False)

    def test_places_too_many_to_go_through(self):
        one = read_net("places " + "9" * 50 + "\nto 3 4 0 1\nto 4 5 1 1")
        other = read_net("places " + "9" * 50 + "\nto 4 5 1 1\nto 3 4 0 1\nto 3 5 0 2")
        self.assertIs(are_alike(one, other), True)
        self.assertIs(are_alike(one, (one[0], one[1][:1])), False)
        self.assertEqual(alike_paper(one, other), ("alike", ((1,), (0,)), ((1,), (0,), (0, 1))))
        self.assertIs(alike_paper_holds(one, other, alike_paper(one, other)), True)
        self.assertIs(alike_paper_holds(one, (one[0], ()), ("parts", 0, (3, 0, 4, 1), (0,), (0,) * 9000)), False)

    def test_unlike_many_are_refused(self):
        for one, other in ((1, 2), (4, 3), (10, 11)):
            for meetings in ((), (("to", 0, 1, 0, 1),)):
                for deed in (are_alike, alike_paper):
                    for first, second in (((one, ()), (other, meetings)), ((other, meetings), (one, ()))):
                        with self.assertRaises(NotFit) as caught:
                            deed(first, second)
                        self.assertIs(type(caught.exception), NotFit)
                        self.assertIsInstance(caught.exception, MeetError)


class Checker(unittest.TestCase):
    def test_papers_by_other_hands(self):
        self.assertIs(alike_paper_holds(NET, OTHER, PAPER), True)
        # One has the straight meeting, other has it twice; the two others make it, too.
        one = (3, (("to", 0, 1, 0, 5), ("to", 0, 2, 0, 1), ("to", 2, 1, 1, 4)))
        other = (3, (("to", 0, 1, 0, 5), ("to", 0, 1, 0, 5), ("to", 0, 2, 0, 1), ("to", 2, 1, 1, 4)))
        for straight in ((0,), (1,), (2, 3)):
            for first, second in (((0,), (1, 2)), ((1, 2), (0,)), ((0,), (0,))):
                paper = ("alike", (straight, (2,), (3,)), (first, second, (1,), (2,)))
                self.assertIs(alike_paper_holds(one, other, paper), True)
                self.assertIs(alike_paper_holds(other, one, ("alike", paper[2], paper[1])), True)
        for ask, way, floor in (
            ((1, 2, 2, 5), (1,), (None, 2, 6, None)), ((1, 0, 2, 5), (1,), (2, 0, 6, None)), ((0, 0, 2, 5), (0, 1), (0, 2, 6, None)),
            ((1, 2, 2, 5), (1,), (0, 2, 6, -7)), ((1, 2, 2, 5), (1,), (2, -10 ** 39, 6, None)), ((1, 1, 2, 5), (1,), (None, 1, 6, None)),
            ((1, 2, 2, 5), (1,), (1, 2, 6, None)), ((1, 2, 2, 5), (1,), (0, 0, 6, None)),
        ):
            self.assertIs(alike_paper_holds(NET, SLOWER, ("parts", 0, ask, way, floor)), True, (ask, way, floor))
            self.assertIs(alike_paper_holds(SLOWER, NET, ("parts", 1, ask, way, floor)), True)
        self.assertIs(alike_paper_holds(SLOWER, NET, ("parts", 0, *PARTS[2:])), False)

    def test_a_greater_by(self):
        one, other = (2, (("to", 0, 1, 3, 2),)), (2, (("to", 0, 1, 3, 9),))
        for by, holds in ((4, False), (5, True), (8, True), (11, True), (12, False)):
            self.assertIs(alike_paper_holds(one, other, ("parts", 0, (0, 3, 1, by), (0,), (3, 12))), holds)
        for by in (5, 11, 12, helper.FORTY):
            self.assertIs(alike_paper_holds(one, (2, ()), ("parts", 0, (0, 3, 1, by), (0,), (3, None))), True)
        for moment, holds in ((0, True), (3, True), (4, False)):
            self.assertIs(alike_paper_holds(one, (2, ()), ("parts", 0, (0, moment, 1, 9), (0,), (0, None))), holds)

    def test_each_clause_of_the_ways_broken(self):
        for ways in (
            PAPER[1][::-1], PAPER[1][:2], PAPER[1][1:], PAPER[1] + ((1,),), PAPER[1][:1] + PAPER[1], (), None, "ways", {}, 3,
            list(PAPER[1]), (PAPER[1],), ((2,), (3,), (1,)), ((0, 1), (2,), (1,)), ((3,), (2,), (0,)), ((3,), (2,), ()),
            ((), (2,), (1,)), ([3], (2,), (1,)), ((3,), (2,), (True,)), ((3,), (2,), ("1",)), ((3,), (2,), None),
            ((3,), (2,), (1, 1)), ((3,), (2,), (-3,)), ((3,), (2,), (4,)), (3, 2, 1), ((3, 2), (2,), (1,)), PAPER[2],
        ):
            self.assertIs(alike_paper_holds(NET, OTHER, ("alike", ways, PAPER[2])), False, ways)
        for others in (
            PAPER[2][::-1], PAPER[2][:3], PAPER[2][1:], PAPER[2] + ((0,),), (), None, list(PAPER[2]), PAPER[1],
            ((0,), (1,), (0,), (0,)), ((1,), (1,), (0,), (0,)), ((0, 1), (0,), (0,), (0,)), ((0, 1), (1,), (1,), (0,)),
            ((0, 1), (1,), (0,), (0, 1)), ((0, True), (1,), (0,), (0,)), ((0, 1), (1,), (False,), (0,)), ((0, 1), (1,), (0,), ()),
            ([0, 1], (1,), (0,), (0,)), ((0, 1), (1,), (0,), None), ((1, 0), (1,), (0,), (0,)), ((0, 1), 1, (0,), (0,)),
        ):
            self.assertIs(alike_paper_holds(NET, OTHER, ("alike", PAPER[1], others)), False, others)

    def test_ways_that_come_too_late_or_leave_too_soon(self):
        one = (2, (("to", 0, 1, 3, 2), ("to", 0, 1, 3, 3)))
        for meeting, holds in (
            (("to", 0, 1, 3, 2), True), (("to", 0, 1, 4, 1), False), (("to", 0, 1, 3, 3), False), (("to", 0, 1, 2, 3), False),
            (("both", 0, 1, 3, 2), False), (("to", 1, 0, 3, 2), False), (("to", 0, 1, 3, 1), False),
        ):
            backs = ((0,),) if meeting[0] == "to" else ((0,), (0,))
            told = alike_paper_holds(one, (2, (meeting,)), ("alike", ((0,), (0,)), backs))
            self.assertIs(told, holds, meeting)

    def test_each_clause_of_what_parts_broken(self):
        self.assertIs(alike_paper_holds(NET, SLOWER, PARTS), True)
        for at, thing in (
            (0, "alike"), (0, "Parts"), (0, None), (0, 0), (0, ("parts",)), (1, 1), (1, 2), (1, -1), (1, False), (1, None), (1, "0"),
            (1, ()), (1, [0]), (1, (0,)), (3, (0,)), (3, ()), (3, (0, 1)), (3, [1]), (3, (True,)), (3, ("1",)), (3, None), (3, (-1,)),
            (3, (2,)), (3, (1, 1)), (3, 1), (4, (None, 2, 5, None)), (4, (None, 2, 7, None)), (4, (None, 2, None, None)),
            (4, (None, 3, 6, None)), (4, (None, None, 6, None)), (4, (None, 2, 6)), (4, (None, 2, 6, None, None)),
            (4, [None, 2, 6, None]), (4, (False, 2, 6, None)), (4, (None, 2, 6, True)), (4, (None, "2", 6, None)), (4, None),
            (4, ()), (4, (3, 0, 6, None)), (4, (0, 3, 6, None)), (4, {0: 0}), (4, (None, 2, 6, ())),
        ):
            self.assertIs(alike_paper_holds(NET, SLOWER, put(PARTS, at, thing)), False, (at, thing))
        for ask in (
            (1, 2, 2, 4), (1, 2, 2, 6), (1, 3, 2, 5), (0, 2, 2, 5), (2, 2, 2, 5), (1, 2, 1, 5), (1, 2, 3, 5), (1, 2, 0, 5),
            (1, 2, 2), (1, 2, 2, 5, 5), [1, 2, 2, 5], (True, 2, 2, 5), (1, "2", 2, 5), (1, 2, 2, None), (1, None, 2, 5), (), None, 1,
            (-3, 2, 2, 5), (1, 2, -2, 5), (1, 2, 4, 5), (4, 2, 2, 5), (1, 2, 2, (5,)), (5, 2, 2, 1), "1225", {1: 2},
            (1, True, 2, 5), (1, -1, 2, 5),
        ):
            self.assertIs(alike_paper_holds(NET, SLOWER, put(PARTS, 2, ask)), False, ask)

    def test_moments_of_an_ask_are_from_0(self):
        one, other = (2, (("to", 0, 1, 0, 1),)), (2, ())
        self.assertIs(alike_paper_holds(one, other, ("parts", 0, (0, 0, 1, 1), (0,), (0, None))), True)
        self.assertIs(alike_paper_holds(one, other, ("parts", 0, (0, 0, 1, 1), (0,), (-5, None))), True)
        for moment in (-1, -5, False):
            self.assertIs(alike_paper_holds(one, other, ("parts", 0, (0, moment, 1, 1), (0,), (-5, None))), False)
        self.assertIs(alike_paper_holds(one, other, ("parts", 0, (0, 0, 1, True), (0,), (0, None))), False)
        # No ask of a place and the same one parts two nets.
        for by in (0, 1, 9):
            for floor in ((0, None), (0, 1), (None, None), (by + 1, None)):
                self.assertIs(alike_paper_holds(one, other, ("parts", 0, (0, 0, 0, by), (), floor)), False)

    def test_each_other_clause_broken(self):
        for paper, other in ((PAPER, OTHER), (PARTS, SLOWER)):
            self.assertIs(alike_paper_holds(NET, other, paper), True)
            for thing in (
                paper[:-1], paper + (None,), paper[1:], list(paper), (paper,), paper[::-1], ("never", *paper[1:]), None, (),
                "alike", "parts", 0, True, dict(enumerate(paper)), (paper[0],), (paper[0], *paper), [paper],
            ):
                self.assertIs(alike_paper_holds(NET, other, thing), False, thing)
        self.assertIs(alike_paper_holds(NET, OTHER, ("alike", PAPER[2], PAPER[1])), False)
        self.assertIs(alike_paper_holds(OTHER, NET, ("alike", PAPER[2], PAPER[1])), True)
        self.assertIs(alike_paper_holds(OTHER, NET, PAPER), False)
        self.assertIs(alike_paper_holds(NET, OTHER, PARTS), False)
        self.assertIs(alike_paper_holds(NET, SLOWER, PAPER), False)

    def test_near_told_ones(self):
        dice = random.Random(73)
        pairs = [(NET, OTHER), (NET, SLOWER)]
        for net in helper.some_of(dice, helper.small_nets(), 50):
            pairs.append((net, some_other(dice, net)))
        for one, other in pairs:
            for thing in helper.some_of(dice, helper.near(alike_paper(one, other)), 600):
                told = helper.right_alike_paper(one, other, thing)
                self.assertIs(alike_paper_holds(one, other, thing), told, repr(thing)[:200])

    def test_what_is_let_by_is_so(self):
        dice = random.Random(74)
        let_by = []
        for net in helper.small_nets():
            for _ in range(6):
                other = some_other(dice, net)
                alike = helper.all_pairs_of(net) == helper.all_pairs_of(other)
                for paper in self.some_papers(dice, net, other):
                    told = alike_paper_holds(net, other, paper)
                    self.assertIs(told, helper.right_alike_paper(net, other, paper))
                    if told:
                        let_by.append(paper[0])
                        self.assertEqual(paper[0] == "alike", alike)
                    if told and paper[0] == "parts":
                        nets = (net, other)
                        place, moment, to, by = paper[2]
                        come = earliest(nets[paper[1]], place, moment)[to]
                        self.assertLessEqual(come, by)
                        come = earliest(nets[1 - paper[1]], place, moment)[to]
                        self.assertTrue(come is None or come > by)
        self.assertGreater(let_by.count("alike"), 100)
        self.assertGreater(let_by.count("parts"), 100)

    def some_papers(self, dice, one, other):
        """Papers of any hand: ways that fit perhaps, asks that part perhaps."""
        told = []
        for steps, net in ((helper.plain_steps(one), other), (helper.plain_steps(other), one)):
            ways = []
            for _, start, to, begin, end in steps:
                fitting = [way for way, _, here, come in helper.all_ways(net, start, begin) if here == to and come <= end]
                ways.append(dice.choice(fitting) if fitting else ())
            told.append(tuple(ways))
        papers = [("alike", *told)]
        for _ in range(8):
            which = dice.randrange(2)
            steps = helper.plain_steps((one, other)[which]) or [(0, 0, 0, 0, 0)]
            _, place, to, begin, end = dice.choice(steps)
            moment, by = max(0, begin - dice.choice((0, 0, 1, 3))), end + dice.choice((0, 0, 0, 1, 3, -1))
            ways = [way for way, _, here, _ in helper.all_ways((one, other)[which], place, moment) if here == to] or [()]
            floor = helper.lowered(dice, helper.earliest_of_all_ways((other, one)[which], place, moment))
            papers.append(("parts", which, (place, moment, to, by), dice.choice(ways), floor))
        return papers

    def test_things_of_other_kinds(self):
        for thing in helper.ODD_THINGS:
            for paper in (
                thing, ("alike", thing, PAPER[2]), ("alike", PAPER[1], thing), ("alike", thing, thing), (thing, *PAPER[1:]),
                ("alike", put(PAPER[1], 0, thing), PAPER[2]), ("alike", PAPER[1], put(PAPER[2], 1, thing)),
                ("alike", PAPER[1] + (thing,), PAPER[2]), ("alike", ((thing,), (2,), (1,)), PAPER[2]),
            ):
                told = helper.right_alike_paper(NET, OTHER, paper)
                self.assertIs(alike_paper_holds(NET, OTHER, paper), told, repr(paper)[:80])
            papers = [put(PARTS, at, thing) for at in range(5)] + [("parts", thing, thing, thing, thing)]
            papers += [put(PARTS, 2, put(PARTS[2], at, thing)) for at in range(4)]
            papers += [put(PARTS, 4, put(PARTS[4], at, thing)) for at in range(4)] + [put(PARTS, 3, (thing,))]
            for paper in papers:
                told = helper.right_alike_paper(NET, SLOWER, paper)
                self.assertIs(alike_paper_holds(NET, SLOWER, paper), told, repr(paper)[:80])


if __name__ == "__main__":
    unittest.main()
