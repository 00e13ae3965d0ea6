"""Point 10: floors."""

import random
import unittest

import helper
from meetways.earliest import earliest
from meetways.floors import floor_holds
from meetways.nettexts import read_net

NET = (4, (("to", 0, 1, 3, 2), ("both", 1, 2, 5, 4)))


class Floors(unittest.TestCase):
    def test_by_hand(self):
        for floor in (
            (3, 5, 9, None), (2, 5, 9, None), (-7, 5, 9, None), (3, -1, -10 ** 39, None), (3, 5, 9, 0),
            (3, 4, 8, 10 ** 39), (0, 0, 0, 0),
        ):
            self.assertIs(floor_holds(NET, 0, 3, floor), True, floor)
        for floor in (
            (4, 5, 9, None), (None, 5, 9, None), (None, None, None, None), (3, 6, 9, None), (3, None, 9, None),
            (3, 5, 10, None), (3, 5, None, None), (3, None, None, None), (2, 10, 9, None), (3, 5, 9), (3, 5, 9, None, 0),
            [3, 5, 9, None], (), (3, 5, 9, False), (True, 5, 9, None), (3, "5", 9, None), (3, 5, (9,), None),
            (3, 5, 9, []), {0: 3, 1: 5, 2: 9, 3: None}, None, 3, "3 5 9",
        ):
            self.assertIs(floor_holds(NET, 0, 3, floor), False, floor)

    def test_steps_that_begin_before_are_not_asked(self):
        self.assertIs(floor_holds(NET, 0, 4, (4, None, None, None)), True)
        self.assertIs(floor_holds(NET, 0, 4, (3, None, None, None)), False)

    def test_both_directions_are_asked(self):
        net = (2, (("both", 0, 1, 5, 1),))
        self.assertIs(floor_holds(net, 1, 5, (None, 5)), False)
        self.assertIs(floor_holds(net, 1, 5, (6, 5)), True)
        self.assertIs(floor_holds(net, 1, 5, (7, 5)), False)
        self.assertIs(floor_holds((2, (("to", 0, 1, 5, 1),)), 1, 5, (None, 5)), True)

    def test_steps_are_asked_from_places_that_none_comes_to(self):
        net = (3, (("to", 1, 2, 5, 1),))
        self.assertIs(floor_holds(net, 0, 0, (0, 5, None)), False)
        self.assertIs(floor_holds(net, 0, 0, (0, 6, None)), True)
        self.assertIs(floor_holds(net, 0, 0, (0, 5, 6)), True)

    def test_what_is_told_is_one(self):
        for net in helper.small_nets() + helper.great_nets():
            for place in range(net[0]):
                for moment in helper.moments_of(net)[::3]:
                    self.assertIs(floor_holds(net, place, moment, earliest(net, place, moment)), True)

    def test_what_is_nearly_one(self):
        dice = random.Random(7)
        nets = [NET] + helper.some_of(dice, helper.small_nets(), 30) + helper.some_of(dice, helper.great_nets(), 4)
        for net in nets:
            place = dice.randrange(net[0])
            moment = dice.choice(helper.moments_of(net))
            for thing in helper.near(earliest(net, place, moment)):
                told = helper.right_floor(net, place, moment, thing)
                self.assertIs(floor_holds(net, place, moment, thing), told, (net, place, moment, repr(thing)[:80]))

    def test_rows_of_any_numbers(self):
        dice = random.Random(8)
        seen = []
        for net in helper.small_nets():
            for _ in range(60):
                row = tuple(dice.choice((None, -1, dice.randint(0, 12))) for _ in range(net[0]))
                place = dice.randrange(net[0])
                moment = dice.randint(0, 12)
                told = helper.right_floor(net, place, moment, row)
                seen.append(told)
                self.assertIs(floor_holds(net, place, moment, row), told, (net, place, moment, row))
        self.assertGreater(min(seen.count(True), seen.count(False)), 500)

    def test_no_way_comes_sooner(self):
        dice = random.Random(9)
        for net in helper.small_nets():
            for _ in range(40):
                row = tuple(dice.choice((None, dice.randint(-2, 12))) for _ in range(net[0]))
                if floor_holds(net, 0, 2, row):
                    for number, come in zip(row, helper.earliest_of_all_ways(net, 0, 2)):
                        self.assertTrue(come is None or (number is not None and number <= come))

    def test_things_of_other_kinds(self):
        for thing in helper.ODD_THINGS:
            for net in ((1, ()), (2, ()), NET):
                told = helper.right_floor(net, 0, 5, thing)
                self.assertIs(floor_holds(net, 0, 5, thing), told, repr(thing)[:80])

    def test_great_nets(self):
        far = 10 ** 60
        net = read_net(f"places {far}\nto 0 1 {far} 1")
        self.assertIs(floor_holds(net, 0, 0, (0, 1)), False)
        net = read_net(f"places 2\nto 0 1 {far} 1")
        self.assertIs(floor_holds(net, 0, far, (far, far + 1)), True)
        self.assertIs(floor_holds(net, 0, far, (far, far + 2)), False)
        self.assertIs(floor_holds((400, ()), 0, 0, (0,) + (None,) * 399), True)


if __name__ == "__main__":
    unittest.main()
