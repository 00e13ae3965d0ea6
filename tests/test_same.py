"""Point 2: nothing that is handed in is changed, and the same asked of the same is told the same."""

import copy
import unittest

import helper
from meetways.alike import alike_paper, are_alike
from meetways.alikechecks import alike_paper_holds
from meetways.earlychecks import early_paper_holds
from meetways.earliest import earliest, early_way
from meetways.earlypapers import early_paper
from meetways.errors import NoText
from meetways.fewest import fewest, meets_paper
from meetways.floors import floor_holds
from meetways.latechecks import ceiling_holds, late_paper_holds
from meetways.latepapers import late_paper
from meetways.latest import latest
from meetways.losing import gap, lost_paper, places_apart, places_lost
from meetways.losschecks import lost_paper_holds
from meetways.meetchecks import meets_paper_holds
from meetways.nets import is_meeting, is_net, steps_of
from meetways.nettexts import read_net, show_net
from meetways.partchecks import parted_holds
from meetways.parting import parted
from meetways.plain import plain, thinned
from meetways.reach import reach
from meetways.reachchecks import reach_paper_holds
from meetways.reachpapers import reach_paper
from meetways.spreadchecks import spread_holds
from meetways.spreading import spread, spread_way
from meetways.timechecks import time_paper_holds
from meetways.times import least_time, time_paper
from meetways.turning import top_of, turned_net, turned_way
from meetways.waitchecks import wait_paper_holds
from meetways.waiting import waiting
from meetways.waitpapers import wait_paper
from meetways.ways import comes_at, is_way, places_on, waits_on


def read_or_refused(thing):
    try:
        return read_net(thing)
    except NoText:
        return "refused"


def all_told(net):
    """One answer of each function over the net."""
    last = net[0] - 1
    way = early_way(net, 0, 0, last)
    told = [is_net(net), steps_of(net), show_net(net), read_net(show_net(net)), top_of(net)]
    told += [turned_net(net, top_of(net) + 1), earliest(net, 0, 0), latest(net, last, top_of(net)), way]
    told += [early_paper(net, 0, 0, last), late_paper(net, 0, last, top_of(net))]
    told += [fewest(net, 0, 0, last, top_of(net)), meets_paper(net, 0, 0, last, top_of(net))]
    if last > 0:
        told += [least_time(net, 0, 1, last), time_paper(net, 0, 1, last), reach(net, 0, last), reach(net, last, 0)]
        told += [reach_paper(net, 0, last), reach_paper(net, last, 0)]
        told += [parted(net, 0, 0, last, top_of(net)), places_lost(net, 0, 0, last, top_of(net)), gap()]
        if places_lost(net, 0, 0, last, top_of(net)) is not None:
            told += [places_apart(net, 0, 0, last, top_of(net)), lost_paper(net, 0, 0, last, top_of(net))]
    told += [waiting(net, 0, 0, 3), waiting(net, last, 1, 0), wait_paper(net, 0, 0, last, 3)]
    told += [plain(net), thinned(net), are_alike(net, plain(net)), alike_paper(plain(net), net)]
    told += [alike_paper(net, (net[0], net[1][1:])), are_alike(net, (net[0], net[1][1:]))]
    told += [spread(net, ((0, 0), (last, 1))), spread_way(net, ((last, 0), (0, 0)), last)]
    if way is not None:
        told += [is_way(net, 0, 0, way), places_on(net, 0, way), comes_at(net, 0, way), waits_on(net, 0, way)]
        told += [turned_way(way)]
    return repr(told)


def all_judged(net, thing):
    """What each function that takes anything says of the thing."""
    return [
        is_meeting(3, thing), is_net(thing), read_or_refused(thing), is_way(net, 0, 0, thing),
        floor_holds(net, 0, 0, thing), early_paper_holds(net, 0, 0, 1, thing),
        early_paper_holds(net, 0, 0, 1, ("comes", thing, thing)), early_paper_holds(net, 0, 0, 1, ("never", thing)),
        ceiling_holds(net, 2, 2, thing), late_paper_holds(net, 0, 2, 2, thing),
        late_paper_holds(net, 0, 2, 2, ("leaves", thing, thing)), time_paper_holds(net, 0, 0, 2, thing),
        time_paper_holds(net, 0, 0, 2, ("takes", thing, thing)), time_paper_holds(net, 0, 0, 2, ("takes", (0, 1), thing)),
        meets_paper_holds(net, 0, 0, 2, 5, thing), meets_paper_holds(net, 0, 0, 2, 5, ("meets", thing, thing)),
        meets_paper_holds(net, 0, 0, 2, 5, ("meets", (0, 1), thing)), reach_paper_holds(net, 0, 2, thing),
        reach_paper_holds(net, 0, 2, (thing, thing)), reach_paper_holds(net, 0, 2, (((0, 2, (0, 1)),), thing)),
        wait_paper_holds(net, 0, 0, 2, 5, thing), wait_paper_holds(net, 0, 0, 2, 5, ("comes", thing, thing)),
        wait_paper_holds(net, 0, 0, 2, 5, ("comes", thing, ((0, 0), (1, 1)))), spread_holds(net, ((0, 0),), thing),
        spread_holds(net, ((0, 0),), (thing, thing, thing)), parted_holds(net, 0, 0, 2, 5, thing),
        parted_holds(net, 0, 0, 2, 5, (thing, thing, thing)), parted_holds(net, 0, 0, 2, 5, (((0, 1),), thing, thing)),
        lost_paper_holds(net, 0, 0, 2, 5, thing), lost_paper_holds(net, 0, 0, 2, 5, (thing, thing, thing)),
        lost_paper_holds(net, 0, 0, 2, 5, ((1,), (0, None, None), thing)), alike_paper_holds(net, net, thing),
        alike_paper_holds(net, net, ("alike", thing, thing)), alike_paper_holds(net, net, ("parts", 0, thing, thing, thing)),
    ]


class Same(unittest.TestCase):
    def test_told_the_same_with_others_between(self):
        nets = helper.small_nets() + helper.great_nets()
        first = [all_told(net) for net in nets]
        self.assertEqual([all_told(copy.deepcopy(net)) for net in reversed(nets)], first[::-1])
        self.assertEqual([all_told(net) for net in nets], first)

    def test_nothing_is_changed(self):
        net = (3, (("to", 0, 1, 0, 1), ("both", 1, 2, 1, 1)))
        for thing in helper.ODD_THINGS:
            kept = copy.deepcopy(thing)
            told = all_judged(net, thing)
            self.assertTrue(helper.same(thing, kept))
            self.assertEqual(all_judged(net, thing), told)
        self.assertEqual(net, (3, (("to", 0, 1, 0, 1), ("both", 1, 2, 1, 1))))

    def test_what_was_told_may_be_handed_in_again(self):
        far = "6" * 1900
        net = read_net(f"places 3\nboth 0 1 {far} {far}\nto 1 2 1{far} 7")
        self.assertIs(is_net(net), True)
        for again in (net, turned_net(net, top_of(net)), turned_net(net, top_of(net) + net[1][0][3])):
            self.assertEqual(read_net(show_net(again)), again)
            row = earliest(again, 1, 0)
            for other in range(3):
                paper = early_paper(again, 1, 0, other)
                self.assertIs(early_paper_holds(again, 1, 0, other, paper), True)
                if row[other] is not None:
                    self.assertEqual(earliest(again, other, row[other])[other], row[other])
                    late = late_paper(again, 1, other, row[other])
                    self.assertTrue(helper.right_late_paper(again, 1, other, row[other], late))
                    self.assertIs(late_paper_holds(again, 1, other, row[other], late), True)
                    paper = meets_paper(again, 1, 0, other, row[other])
                    self.assertIs(meets_paper_holds(again, 1, 0, other, row[other], paper), True)
                    self.assertIs(is_way(again, 1, 0, paper[1]), True)
                if other != 1:
                    paper = time_paper(again, 1, 0, other)
                    self.assertIs(time_paper_holds(again, 1, 0, other, paper), True)
                    for leave, come in reach(again, 1, other):
                        self.assertEqual(earliest(again, 1, leave)[other], come)
                        self.assertEqual(least_time(again, 1, leave, other), come - leave)
                        self.assertEqual(waiting(again, 1, leave, 0)[1], leave)
                        self.assertEqual(waiting(again, 1, 0, leave + come)[other], earliest(again, 1, 0)[other])
                    paper = reach_paper(again, 1, other)
                    self.assertIs(reach_paper_holds(again, 1, other, paper), True)
                    self.assertEqual(tuple(row[:2] for row in paper[0]), reach(again, 1, other))
                    ways, lost, floor = parted(again, 1, 0, other, top_of(again))
                    self.assertIs(parted_holds(again, 1, 0, other, top_of(again), (ways, lost, floor)), True)
                    if places_lost(again, 1, 0, other, top_of(again)) is not None:
                        paper = lost_paper(again, 1, 0, other, top_of(again))
                        self.assertIs(lost_paper_holds(again, 1, 0, other, top_of(again), paper), True)
                self.assertEqual(plain(plain(again)), plain(again))
                for first, second in ((again, plain(again)), (plain(again), (3, again[1][:1]))):
                    paper = alike_paper(first, second)
                    self.assertIs(alike_paper_holds(first, second, paper), True)
                    self.assertEqual(paper[0] == "alike", plain(first) == plain(second))
                paper = wait_paper(again, 1, 0, other, top_of(again))
                self.assertTrue(helper.right_wait_paper(again, 1, 0, other, top_of(again), paper))
                self.assertIs(wait_paper_holds(again, 1, 0, other, top_of(again), paper), True)
                if row[other] is not None:
                    hands = ((other, row[other]), (1, 0))
                    self.assertIs(spread_holds(again, hands, spread(again, hands)), True)
                    self.assertEqual(spread(again, hands)[other], (row[other], 0, -1))

    def test_what_is_told_of_several_is_a_tuple(self):
        net = (3, (("to", 0, 1, 0, 1), ("both", 1, 2, 1, 1)))
        for told in (
            steps_of(net), places_on(net, 0, (0,)), waits_on(net, 0, (0,)), turned_net(net, 5), turned_net(net, 5)[1],
            turned_way((0, 1)), earliest(net, 0, 0), early_way(net, 0, 0, 2), early_paper(net, 0, 0, 2),
            early_paper(net, 2, 9, 0), latest(net, 2, 5), late_paper(net, 0, 2, 5), late_paper(net, 2, 0, 5),
            time_paper(net, 0, 0, 2), time_paper(net, 0, 0, 2)[2], time_paper(net, 0, 0, 2)[2][0], time_paper(net, 0, 9, 2),
            meets_paper(net, 0, 0, 2, 5), meets_paper(net, 0, 0, 2, 5)[2], meets_paper(net, 0, 0, 2, 1),
            reach(net, 0, 2), reach(net, 0, 2)[0], reach(net, 2, 0), *reach_paper(net, 0, 2), reach_paper(net, 0, 2),
            waiting(net, 0, 0, 1), wait_paper(net, 0, 0, 2, 1), *wait_paper(net, 0, 0, 2, 1)[1:],
            wait_paper(net, 2, 0, 0, 1), wait_paper(net, 0, 0, 2, 1)[2][0], spread(net, ((0, 0),)),
            *spread(net, ((0, 0),)), spread_way(net, ((0, 0),), 2), spread_way(net, ((0, 0),), 0),
            parted(net, 0, 0, 2, 5), *parted(net, 0, 0, 2, 5), *parted(net, 0, 0, 2, 5)[0], places_lost(net, 0, 0, 2, 5),
            places_apart(net, 0, 0, 2, 5), lost_paper(net, 0, 0, 2, 5), *lost_paper(net, 0, 0, 2, 5), gap(), *gap(),
            plain(net), plain(net)[1], thinned(net), alike_paper(net, net), *alike_paper(net, net)[1:],
            alike_paper(net, (3, ())), *alike_paper(net, (3, ()))[2:],
        ):
            self.assertIs(type(told), tuple)


if __name__ == "__main__":
    unittest.main()
