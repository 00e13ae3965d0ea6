"""Point 8: nets and ways turned."""

import unittest

import helper
from meetways.earliest import earliest
from meetways.latest import latest
from meetways.nettexts import read_net, show_net
from meetways.turning import top_of, turned_net, turned_way
from meetways.ways import comes_at, is_way, places_on

NET = (3, (("to", 0, 1, 0, 2), ("both", 1, 2, 2, 5)))


class Turning(unittest.TestCase):
    def test_top(self):
        self.assertEqual(top_of((1, ())), 0)
        self.assertEqual(top_of(NET), 7)
        self.assertEqual(top_of((2, (("to", 0, 1, 3, 9), ("to", 0, 1, 10, 1)))), 12)
        for net in helper.small_nets() + helper.great_nets():
            self.assertEqual(top_of(net), max([0] + [step[4] for step in helper.plain_steps(net)]))

    def test_net_by_hand(self):
        self.assertEqual(turned_net(NET, 7), (3, (("to", 1, 0, 5, 2), ("both", 2, 1, 0, 5))))
        self.assertEqual(turned_net(NET, 10), (3, (("to", 1, 0, 8, 2), ("both", 2, 1, 3, 5))))
        self.assertEqual(turned_net((4, ()), 0), (4, ()))

    def test_rows_of_numbers(self):
        for row in ((), (0,), (0, 1, 2), (5, 5, 1), (10 ** 39, -3)):
            told = turned_way(row)
            self.assertIs(type(told), tuple)
            self.assertEqual(told, tuple(row[len(row) - 1 - at] for at in range(len(row))))

    def test_turned_twice(self):
        for net in helper.small_nets() + helper.great_nets():
            for top in (top_of(net), top_of(net) + 3, 2 * 10 ** 13 + top_of(net)):
                turned = turned_net(net, top)
                self.assertTrue(helper.right_net(turned))
                self.assertEqual(turned_net(turned, top), net)

    def test_ways_turned(self):
        for net in helper.small_nets():
            for top in (top_of(net), top_of(net) + 4):
                turned = turned_net(net, top)
                for place in range(net[0]):
                    for way, leave, to, come in helper.all_ways(net, place, 0):
                        leave = 0 if leave is None else leave
                        self.way_back(turned, turned_way(way), to, top - come, place, top - leave)

    def way_back(self, turned, way, start, moment, to, come):
        self.assertIs(is_way(turned, start, moment, way), True)
        self.assertEqual(places_on(turned, start, way)[-1], to)
        self.assertEqual(comes_at(turned, moment, way), come)

    def test_earliest_turned_is_latest(self):
        for net in helper.great_nets():
            top = top_of(net) + 1
            turned = turned_net(net, top)
            for place in range(net[0]):
                early = earliest(net, place, top // 2)
                late = latest(turned, place, top - top // 2)
                self.assertEqual(late, tuple(None if come is None else top - come for come in early))

    def test_nets_read_of_great_texts(self):
        far = "8" * 3000
        net = read_net(f"places {far}\nboth 0 8 {far} {far}")
        top = top_of(net)
        self.assertEqual(top, 2 * net[0])
        turned = turned_net(net, top)
        self.assertEqual(turned, (net[0], (("both", 8, 0, 0, net[0]),)))
        self.assertEqual(show_net(turned), f"places {far}\nboth 8 0 0 {far}")
        self.assertEqual(turned_net(turned, top), net)


if __name__ == "__main__":
    unittest.main()
