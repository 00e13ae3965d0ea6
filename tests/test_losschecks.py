"""Point 24: the checker of papers of the fewest lost places."""

import itertools
import random
import unittest

import helper
from meetways.losing import gap, lost_paper, places_lost
from meetways.losschecks import lost_paper_holds
from meetways.nettexts import read_net

# From 0 to 4 by 7 ways come to 1, to 2 and 3, or to 1 and 3; inner places are 1, 2, 3, 5.
NET = (6, (
    ("to", 0, 1, 0, 1), ("both", 1, 4, 3, 1), ("to", 0, 2, 0, 1), ("to", 2, 3, 1, 1), ("to", 3, 4, 6, 1),
    ("to", 1, 3, 2, 1), ("both", 0, 5, 2, 2), ("to", 5, 3, 6, 1), ("to", 3, 4, 7, 2)))
LOST = (1, 2)
FLOOR = (0, None, None, 7, 9, 4)
WAYS = ((2, 3, 4), (0, 1), (0, 1), (0, 1))


def put(things, at, thing):
    """The tuple with another thing there."""
    return things[:at] + (thing,) + things[at + 1:]


class Told(unittest.TestCase):
    def test_told_papers_are_let_by(self):
        dice = random.Random(65)
        asks = [(net, (0, 0, 9, by)) for net in helper.places_nets() for by in (9, 25)] + [gap()]
        for net in helper.small_nets() + helper.great_nets() + helper.read_nets():
            for _ in range(3 if net[0] > 1 else 0):
                moments = helper.moments_of(net)
                place, other = dice.sample(range(net[0]), 2)
                asks.append((net, (place, dice.choice(moments[:9]), other, dice.choice(moments))))
        counts = []
        for net, ask in asks:
            if places_lost(net, *ask) is not None:
                paper = lost_paper(net, *ask)
                self.assertIs(lost_paper_holds(net, *ask, paper), True, (net, ask, paper))
                counts.append(len(paper[0]))
        for count in (0, 1, 2, 3, 4):
            self.assertGreater(counts.count(count), 3)

    def test_nets_read_of_a_text(self):
        far = "7" * 1200
        net = read_net(f"places 4\nto 0 1 {far} {far}\nto 1 2 2{far} 1\nto 0 3 1 1\nto 3 2 {far} 2{far}")
        top = net[1][1][3] + 1
        papers = {by: lost_paper(net, 0, 0, 2, by) for by in (top - 1, top, top * 9)}
        for by, paper in papers.items():
            for told in papers:
                self.assertIs(lost_paper_holds(net, 0, 0, 2, by, papers[told]), told == by)


class Checker(unittest.TestCase):
    def holds(self, thing, by=7):
        return lost_paper_holds(NET, 0, 0, 4, by, thing)

    def test_papers_by_other_hands(self):
        for lost, floor in (
            (LOST, FLOOR), (LOST, (0, None, None, 7, 8, 4)), (LOST, (-9, None, None, 7, 8, 0)),
            (LOST, (0, 8, None, 7, 9, 4)), (LOST, (0, -9, 10 ** 39, 7, 9, 4)), ((1, 3), (0, None, 1, None, None, 4)),
            ((1, 3), (0, 99, 1, 0, None, 4)), ((1, 3), (-1, None, 0, None, 8, -7)),
        ):
            for second, last in itertools.product(((0, 1), (0, 5, 4)), ((0, 1), (0, 5, 4), (2, 3, 4))):
                self.assertIs(self.holds((lost, floor, (WAYS[0], second, (0, 1), last))), True, (lost, floor, second, last))
        self.assertIs(self.holds(((1, 3), (0, None, 1, None, None, 4), WAYS), 9), True)
        ways = ((2, 3, 4), (0, 1), (0, 1), (2, 3, 8))
        self.assertIs(self.holds(((1, 3), (0, None, 1, None, None, 4), ways), 9), True)
        self.assertIs(self.holds(((1, 3), (0, None, 1, None, None, 4), put(ways, 0, (6, 7, 8))), 9), True)
        self.assertIs(self.holds(((1, 3), (0, None, 1, None, None, 4), put(ways, 0, (6, 7, 8))), 8), False)
        for way in ((0, 1),):
            self.assertIs(self.holds(((1,), (0, None, 1, 2, 7, 4), (way,)), 6), True)
        self.assertIs(self.holds(((), (0, 1, 1, 2, 4, 4), ()), 3), True)
        # A way that comes to places again, and to the place itself, is one.
        net = (3, (("both", 0, 1, 0, 1), ("both", 0, 1, 1, 1), ("both", 0, 1, 2, 1), ("to", 1, 2, 5, 1)))
        for way in ((0, 3), (1, 3), (0, 1, 2, 3), (2, 3)):
            self.assertIs(lost_paper_holds(net, 0, 0, 2, 6, ((1,), (0, None, None), (way,))), True)

    def test_each_clause_of_the_lost_broken(self):
        for lost in (
            (2, 1), (1, 1, 2), (1, 2, 2), (1,), (2,), (), (1, 2, 3), (2, 3), (1, 5), (2, 5), (3, 5), (0, 1), (1, 4), (0, 4),
            (-1, 1), (1, 6), (1, helper.FORTY), [1, 2], (True, 2), (1, "2"), (None, 2), (1, None), None, "12", 1, {1: 2},
            ((1, 2),), (1, 2, None), ((1,), (2,)), (1, (2,)), (0, 1, 2), (1, 2, 4),
        ):
            for floor in (FLOOR, (0, None, 1, None, None, 4), (0, None, None, None, None, None)):
                self.assertIs(self.holds((lost, floor, WAYS)), False, (lost, floor))

    def test_the_two_places_are_not_inner_ones(self):
        net = (3, (("to", 0, 1, 0, 1), ("to", 1, 2, 1, 1)))
        self.assertIs(lost_paper_holds(net, 0, 0, 2, 2, ((1,), (0, None, None), ((0, 1),))), True)
        for lost in ((0,), (2,)):
            for floor in ((0, None, None), (0, 1, None), (0, 1, 3)):
                self.assertIs(lost_paper_holds(net, 0, 0, 2, 2, (lost, floor, ((0, 1),))), False)

    def test_a_way_that_comes_to_no_inner_place(self):
        net = (3, (("to", 0, 2, 0, 9), ("to", 0, 1, 0, 1), ("to", 1, 2, 1, 1)))
        for floor in ((0, None, None), (0, None, 9), (0, 1, 10), (0, None, 10)):
            for lost, ways in (((), ()), ((1,), ((0,),)), ((1,), ((1, 2),))):
                self.assertIs(lost_paper_holds(net, 0, 0, 2, 9, (lost, floor, ways)), False)
        self.assertIs(lost_paper_holds(net, 0, 0, 2, 8, ((1,), (0, None, 9), ((1, 2),))), True)

    def test_more_lost_than_are_needed(self):
        # One is enough; of two, one fewer parts them too, so that a way is missing.
        net = (4, (("to", 0, 1, 0, 1), ("to", 1, 2, 1, 1), ("to", 2, 3, 2, 1)))
        for lost in ((1,), (2,)):
            self.assertIs(lost_paper_holds(net, 0, 0, 3, 3, (lost, (0, None if lost == (1,) else 1, None, None), ((0, 1, 2),))), True)
        for ways in (((0, 1, 2), (0, 1, 2)), ((0, 1, 2),), ()):
            self.assertIs(lost_paper_holds(net, 0, 0, 3, 3, ((1, 2), (0, None, None, None), ways)), False)
        self.assertIs(lost_paper_holds(net, 0, 0, 3, 2, ((1,), (0, None, None, None), ((0, 1, 2),))), False)

    def test_each_clause_of_the_floor_broken(self):
        for floor in (
            (0, None, None, 7, 7, 4), (0, None, None, 7, 10, 4), (0, None, None, 7, None, 4), (0, None, None, 8, 9, 4),
            (0, None, None, None, 9, 4), (0, None, None, 7, 9, 5), (0, None, None, 7, 9, None), (1, None, None, 7, 9, 4),
            (None, None, None, 7, 9, 4), (3, None, None, 7, 9, None), FLOOR[:5], FLOOR + (None,), FLOOR[::-1], list(FLOOR),
            (False, None, None, 7, 9, 4), (0, None, None, "7", 9, 4), (0, True, None, 7, 9, 4), (0, (), None, 7, 9, 4),
            (FLOOR,), (), None, "floor", 0, {0: 0}, (None,) * 6, (0,) * 6, (0, 1, 1, 2, 4, 4),
        ):
            self.assertIs(self.holds((LOST, floor, WAYS)), False, floor)

    def test_each_clause_of_the_ways_broken(self):
        for ways in (
            WAYS[::-1], (WAYS[1], WAYS[0], *WAYS[2:]), WAYS[1:], WAYS[:3], WAYS[:1], (), WAYS + WAYS[3:], WAYS[:1] + WAYS,
            list(WAYS), (WAYS,), None, "ways", {0: WAYS}, 4, (None,) * 4, WAYS + (None,), WAYS + ((),),
        ):
            self.assertIs(self.holds((LOST, FLOOR, ways)), False, ways)
        for at, way in (
            (0, (0, 1)), (0, (0, 5, 4)), (1, (2, 3, 4)), (2, (2, 3, 4)), (2, (0, 5, 4)), (0, (2, 3, 8)), (0, (6, 7, 8)),
            (0, (2, 3)), (0, ()), (0, (3, 4)), (0, (4, 3, 2)), (0, [2, 3, 4]), (0, (2, 3, True)), (0, (2, 3, None)),
            (1, (0, True)), (1, (False, 1)), (1, (0, "1")), (1, (0, 9)), (1, (0, -8)), (1, None), (1, 0), (1, (0, 1, 1)),
            (3, (0, 5, 8)), (3, (0,)), (3, ((0, 1),)), (3, {0: 1}), (3, "01"),
        ):
            self.assertIs(self.holds((LOST, FLOOR, put(WAYS, at, way))), False, (at, way))

    def test_each_other_clause_broken(self):
        paper = (LOST, FLOOR, WAYS)
        self.assertIs(self.holds(paper), True)
        for thing in (
            paper[:2], paper[1:], paper + (None,), list(paper), (paper,), ("lost", *paper), paper[::-1], (FLOOR, LOST, WAYS),
            (LOST, WAYS, FLOOR), None, (), "lost", 0, True, dict(enumerate(paper)),
        ):
            self.assertIs(self.holds(thing), False, thing)
        for by in (3, 6, 9, 10 ** 13):
            self.assertIs(self.holds(paper, by), False)
        self.assertIs(self.holds(paper, 8), True)
        for put_in in ((WAYS[0],), ((),), (None,), None, (WAYS,)):
            self.assertIs(self.holds(((), (0, 1, 1, 2, 4, 4), put_in), 3), False)

    def test_near_told_ones(self):
        dice = random.Random(66)
        asks = [(NET, (0, 0, 4, 7)), (NET, (0, 0, 4, 9)), gap()]
        asks += [(net, (0, 0, 9, 25)) for net in helper.places_nets()[:8]]
        for net in helper.some_of(dice, helper.small_nets(), 30):
            if net[0] > 2:
                asks.append((net, (0, 0, net[0] - 1, 12)))
        for net, ask in asks:
            if places_lost(net, *ask) is not None:
                for thing in helper.some_of(dice, helper.near(lost_paper(net, *ask)), 500):
                    told = helper.right_lost_paper(net, *ask, thing)
                    self.assertIs(lost_paper_holds(net, *ask, thing), told, repr(thing)[:200])

    def test_what_is_let_by_is_so(self):
        dice = random.Random(67)
        let_by = []
        asks = [gap(), (NET, (0, 0, 4, 7)), (NET, (0, 0, 4, 9))] * 40
        asks += [(net, (0, 0, 9, dice.randint(8, 25))) for net in helper.places_nets() * 3]
        for net, ask in asks:
            inner = helper.inner_of(net, ask[0], ask[2])
            lost = tuple(sorted(helper.some_of(dice, inner, dice.randint(0, 3))))
            if dice.random() < 0.7:
                fewest = helper.fewest_hitting(helper.inner_sets_of_all_places(net, *ask), inner)
                lost = lost if len(fewest) == len(lost) else fewest
            kept = tuple(meeting for meeting in net[1] if meeting[1] not in lost and meeting[2] not in lost)
            floor = helper.lowered(dice, helper.earliest_again_and_again((net[0], kept), *ask[:2]))
            ways = []
            for shunned in itertools.combinations(inner, len(lost) - 1) if lost else ():
                ways.append(self.some_way(dice, net, ask, shunned))
            paper = (lost, floor, tuple(ways))
            told = lost_paper_holds(net, *ask, paper)
            self.assertIs(told, helper.right_lost_paper(net, *ask, paper))
            if told:
                let_by.append(len(lost))
                sets = helper.inner_sets_of_all_places(net, *ask)
                self.assertEqual(len(helper.fewest_hitting(sets, inner)), len(lost))
                self.assertFalse([one for one in sets if not one & set(lost)])
        for count in (0, 1, 2, 3):
            self.assertGreater(let_by.count(count), 4)

    def some_way(self, dice, net, ask, shunned):
        """A way that comes by then, most times to none of the shunned; () where there is none."""
        place, moment, other, by = ask
        steps = [step for step in helper.plain_steps(net) if step[2] not in shunned and step[1] not in shunned]
        found, ahead = {}, [((), place, moment)]
        while ahead:
            way, here, now = ahead.pop(dice.randrange(len(ahead)))
            if here == other and now <= by:
                return way
            for number, start, to, begin, end in steps:
                if start == here and begin >= now and (to, end) not in found:
                    found[to, end] = True
                    ahead.append((way + (number,), to, end))
        return ()

    def test_things_of_other_kinds(self):
        for thing in helper.ODD_THINGS:
            for paper in (
                thing, (thing, FLOOR, WAYS), (LOST, thing, WAYS), (LOST, FLOOR, thing), (thing, thing, thing),
                ((thing, 2), FLOOR, WAYS), ((1, thing), FLOOR, WAYS), (LOST, put(FLOOR, 4, thing), WAYS),
                (LOST, put(FLOOR, 1, thing), WAYS), (LOST, FLOOR, put(WAYS, 1, thing)), (LOST, FLOOR, (thing,) * 4),
                (LOST, FLOOR, WAYS + (thing,)), (LOST, FLOOR, put(WAYS, 1, (0, thing))), ((), thing, ()), ((), FLOOR, thing),
            ):
                self.assertIs(self.holds(paper), helper.right_lost_paper(NET, 0, 0, 4, 7, paper), repr(paper)[:80])

    def test_choices_too_many_to_go_through(self):
        net = read_net("places " + "9" * 50 + "\nto 3 4 0 1\nto 4 5 1 1")
        self.assertIs(lost_paper_holds(net, 3, 0, 5, 2, ((4,), (None,) * 9000, ((0, 1),))), False)
        net = read_net("places 41\n" + "\n".join(f"to {at} {at + 1} {2 * at} 2" for at in range(40)))
        floor = (0,) + (None,) * 40
        self.assertIs(lost_paper_holds(net, 0, 0, 40, 80, ((1,), floor, (tuple(range(40)),))), True)
        for count in (2, 19, 20, 21, 38, 39):
            lost = tuple(range(1, 1 + count))
            for ways in ((tuple(range(40)),) * 39, (), (tuple(range(40)),), ((),) * 39):
                self.assertIs(lost_paper_holds(net, 0, 0, 40, 80, (lost, floor, ways)), False)
        # Each of 39 inner places has a way of its own: all must be lost, and 39 choices of 38 are shunned.
        text = "places 41\n" + "\n".join(f"to 0 {at} 0 1\nto {at} 40 1 1" for at in range(1, 40))
        net = read_net(text)
        ways = tuple((2 * at, 2 * at + 1) for at in range(38, -1, -1))
        self.assertIs(lost_paper_holds(net, 0, 0, 40, 2, (tuple(range(1, 40)), floor, ways)), True)
        self.assertIs(lost_paper_holds(net, 0, 0, 40, 2, (tuple(range(1, 40)), floor, ways[::-1])), False)
        self.assertIs(lost_paper_holds(net, 0, 0, 40, 2, (tuple(range(1, 39)), floor, ways)), False)
        self.assertTrue(helper.same(lost_paper(net, 0, 0, 40, 2), (tuple(range(1, 40)), floor, ways)))


if __name__ == "__main__":
    unittest.main()
