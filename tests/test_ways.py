"""Point 7: ways."""

import random
import unittest

import helper
from meetways.nettexts import read_net
from meetways.ways import comes_at, is_way, places_on, waits_on

# 0 -to- 1 (0 to 2), 1 -both- 2 (2 to 7), 2 -both- 1 (7 to 8), 1 -to- 0 (20 to 21)
NET = (4, (("to", 0, 1, 0, 2), ("both", 1, 2, 2, 5), ("both", 1, 2, 7, 1), ("to", 1, 0, 20, 1)))


class Ways(unittest.TestCase):
    def test_by_hand(self):
        for way in ((), (0,), (0, 1), (0, 1, 2), (0, 1, 2, 3), (0, 3), (0, 2)):
            self.assertIs(is_way(NET, 0, 0, way), True, way)
        for way in ((1,), (2,), (3,), (0, 0), (1, 0), (0, 2, 1), (0, 1, 3), (0, 1, 2, 3, 3), (4,), (0, 4), (-4,)):
            self.assertIs(is_way(NET, 0, 0, way), False, way)
        self.assertIs(is_way(NET, 0, 1, (0,)), False)
        self.assertIs(is_way(NET, 0, 10 ** 40, ()), True)
        self.assertIs(is_way(NET, 1, 2, (1, 2)), True)
        self.assertIs(is_way(NET, 1, 3, (1, 2)), False)
        self.assertIs(is_way(NET, 2, 2, (1, 2)), True)
        self.assertIs(is_way(NET, 3, 0, ()), True)

    def test_one_way_meetings_are_not_gone_back(self):
        self.assertIs(is_way(NET, 1, 0, (0,)), False)
        self.assertIs(is_way((2, (("both", 0, 1, 0, 2),)), 1, 0, (0,)), True)

    def test_meetings_that_touch(self):
        net = (3, (("to", 0, 1, 0, 5), ("to", 1, 2, 5, 1), ("to", 1, 2, 4, 9)))
        self.assertIs(is_way(net, 0, 0, (0, 1)), True)
        self.assertIs(is_way(net, 0, 0, (0, 2)), False)

    def test_truths_are_no_numbers(self):
        for way in ((False,), (0, True), (True,), (False, True)):
            self.assertIs(is_way(NET, 0, 0, way), False)

    def test_things_of_other_kinds(self):
        for thing in helper.ODD_THINGS:
            for place in range(4):
                told = helper.gone(NET, place, 0, thing) is not None
                self.assertIs(is_way(NET, place, 0, thing), told, repr(thing)[:80])

    def test_what_is_nearly_one(self):
        for way in ((), (0,), (0, 1, 2, 3)):
            for thing in helper.near(way):
                told = helper.gone(NET, 0, 0, thing) is not None
                self.assertIs(is_way(NET, 0, 0, thing), told, repr(thing)[:80])

    def test_what_ways_tell_by_hand(self):
        self.assertEqual(places_on(NET, 0, (0, 1, 2, 3)), (0, 1, 2, 1, 0))
        self.assertEqual(places_on(NET, 2, (1, 2)), (2, 1, 2))
        self.assertEqual(comes_at(NET, 0, (0, 1, 2, 3)), 21)
        self.assertEqual(comes_at(NET, 0, (0,)), 2)
        self.assertEqual(waits_on(NET, 0, (0, 1, 2, 3)), (0, 0, 0, 12))
        self.assertEqual(waits_on(NET, 1, (2, 3)), (6, 12))

    def test_without_meetings(self):
        for place in range(4):
            self.assertEqual(places_on(NET, place, ()), (place,))
        for moment in (0, 7, 10 ** 13, 10 ** 40):
            self.assertEqual(comes_at(NET, moment, ()), moment)
            self.assertEqual(waits_on(NET, moment, ()), ())

    def test_all_ways_of_small_nets(self):
        for net in helper.small_nets():
            for place in range(net[0]):
                for way, leave, to, come in helper.all_ways(net, place, 1):
                    self.way_tells(net, place, 1, way, to, come)

    def way_tells(self, net, place, moment, way, to, come):
        self.assertIs(is_way(net, place, moment, way), True)
        taken = helper.gone(net, place, moment, way)
        self.assertEqual(places_on(net, place, way), (place,) + tuple(step[2] for step in taken))
        self.assertEqual(places_on(net, place, way)[-1], to)
        self.assertEqual(comes_at(net, moment, way), come)
        ends = [moment] + [step[4] for step in taken]
        self.assertEqual(waits_on(net, moment, way), tuple(step[3] - end for step, end in zip(taken, ends)))

    def test_rows_of_any_numbers(self):
        dice = random.Random(3)
        for net in helper.small_nets() + helper.great_nets():
            for _ in range(60):
                row = tuple(dice.randint(-1, len(net[1])) for _ in range(dice.randint(0, 3)))
                place = dice.randrange(net[0])
                moment = dice.choice(helper.moments_of(net))
                told = helper.gone(net, place, moment, row) is not None
                self.assertIs(is_way(net, place, moment, row), told, (net, place, moment, row))

    def test_nets_read_of_great_texts(self):
        far = "9" * 40
        net = read_net(f"places {far}\nboth 0 8 {far} {far}\nto 0 7 1{far} 1")
        number = 10 ** 40 - 1
        self.assertIs(is_way(net, 8, number, (0,)), True)
        self.assertIs(is_way(net, 8, number + 1, (0,)), False)
        self.assertIs(is_way(net, 8, 0, (0, 1)), True)
        self.assertEqual(places_on(net, 8, (0, 1)), (8, 0, 7))
        self.assertEqual(comes_at(net, 0, (0,)), 2 * number)
        self.assertEqual(waits_on(net, 1, (0, 1)), (number - 1, 10 ** 40 + number - 2 * number))


if __name__ == "__main__":
    unittest.main()
