"""Points 4 and 5: meetings, nets, steps."""

import random
import unittest

import helper
from meetways.nets import is_meeting, is_net, steps_of

NET = (3, (("to", 0, 1, 0, 2), ("both", 2, 1, 2, 5), ("both", 2, 1, 2, 5), ("to", 2, 0, 10 ** 13, 1)))


class Meetings(unittest.TestCase):
    def test_right_ones(self):
        for many, meeting in (
            (2, ("to", 0, 1, 0, 1)), (2, ("to", 1, 0, 0, 1)), (2, ("both", 0, 1, 5, 9)),
            (10, ("both", 9, 0, 10 ** 13, 10 ** 13)), (3, ("to", 2, 1, 0, 10 ** 39)),
            (10 ** 39, ("to", 10 ** 39 - 1, 0, 10 ** 40, 1)),
        ):
            self.assertIs(is_meeting(many, meeting), True, meeting)

    def test_wrong_ones(self):
        for many, meeting in (
            (1, ("to", 0, 1, 0, 1)), (2, ("to", 0, 2, 0, 1)), (2, ("to", 2, 0, 0, 1)), (2, ("to", 0, 0, 0, 1)),
            (2, ("to", -1, 0, 0, 1)), (2, ("to", 0, -1, 0, 1)), (2, ("to", 0, 1, -1, 1)), (2, ("to", 0, 1, 0, 0)),
            (2, ("to", 0, 1, 0, -1)), (2, ("to", False, 1, 0, 1)), (2, ("to", 0, True, 0, 1)),
            (2, ("to", 0, 1, False, 1)), (2, ("to", 0, 1, 0, True)), (2, ("from", 0, 1, 0, 1)),
            (2, ("", 0, 1, 0, 1)), (2, ("t", 0, 1, 0, 1)), (2, ("TO", 0, 1, 0, 1)), (2, (["to"], 0, 1, 0, 1)),
            (2, ("to", 0, 1, 0)), (2, ("to", 0, 1, 0, 1, 1)), (2, ["to", 0, 1, 0, 1]), (2, ("to", "0", 1, 0, 1)),
            (2, ("to", 0, 1, None, 1)), (2, ("to", 0, 1, 0, None)), (2, {"to": 0}), (2, None), (2, "to 0 1 0 1"),
        ):
            self.assertIs(is_meeting(many, meeting), False, meeting)

    def test_what_is_nearly_one(self):
        for many in (1, 2, 3, 10):
            for meeting in (("to", 0, 1, 0, 1), ("both", 2, 0, 7, 3), ("to", 9, 8, 10 ** 13, 10 ** 13)):
                for thing in helper.near(meeting):
                    self.assertIs(is_meeting(many, thing), helper.right_meeting(many, thing), (many, thing))

    def test_things_of_other_kinds(self):
        for thing in helper.ODD_THINGS:
            self.assertIs(is_meeting(3, thing), False)


class Nets(unittest.TestCase):
    def test_right_ones(self):
        for net in ((1, ()), (10, ()), (10 ** 39, ()), NET, (2, (("to", 0, 1, 0, 1),) * 3000)):
            self.assertIs(is_net(net), True)
        for net in helper.small_nets() + helper.great_nets():
            self.assertIs(is_net(net), True)

    def test_wrong_ones(self):
        for thing in (
            (0, ()), (-1, ()), (True, ()), (None, ()), ("1", ()), (1, []), (1, None), (1, {}), [1, ()], (1,),
            (1, (), ()), (), 1, None, "places 1", (1, (("to", 0, 1, 0, 1),)), (2, ("to", 0, 1, 0, 1)),
            (2, [("to", 0, 1, 0, 1)]), (2, (["to", 0, 1, 0, 1],)), (2, (("to", 0, 1, 0, 1), None)),
            (2, (("to", 0, 1, 0, 1),) * 3000 + (("to", 0, 1, 0, 0),)),
        ):
            self.assertIs(is_net(thing), False, repr(thing)[:80])

    def test_what_is_nearly_one(self):
        for net in ((1, ()), NET):
            for thing in helper.near(net):
                self.assertIs(is_net(thing), helper.right_net(thing), repr(thing)[:80])

    def test_things_of_other_kinds(self):
        for thing in helper.ODD_THINGS:
            self.assertIs(is_net(thing), helper.right_net(thing), repr(thing)[:80])


class Steps(unittest.TestCase):
    def test_by_hand(self):
        self.assertEqual(steps_of((4, ())), ())
        self.assertEqual(steps_of(NET), (
            (0, 0, 1, 0, 2),
            (1, 2, 1, 2, 7), (1, 1, 2, 2, 7),
            (2, 2, 1, 2, 7), (2, 1, 2, 2, 7),
            (3, 2, 0, 10 ** 13, 10 ** 13 + 1),
        ))

    def test_beside_the_plain_ones(self):
        for net in helper.small_nets() + helper.great_nets():
            told = steps_of(net)
            self.assertIsInstance(told, tuple)
            self.assertEqual(told, tuple(helper.plain_steps(net)))

    def test_far_places(self):
        dice = random.Random(1)
        far = dice.randint(10 ** 38, 10 ** 39)
        net = (far + 1, (("both", far, 0, far, far),))
        self.assertEqual(steps_of(net), ((0, far, 0, far, 2 * far), (0, 0, far, far, 2 * far)))


if __name__ == "__main__":
    unittest.main()
