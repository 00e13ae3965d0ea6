"""The interface: names and arguments as the document lists them."""

import importlib
import inspect
import unittest

LISTED = {
    "nets": ("is_meeting(many, thing)", "is_net(thing)", "steps_of(net)"),
    "nettexts": ("show_net(net)", "read_net(text)"),
    "ways": (
        "is_way(net, place, moment, thing)", "places_on(net, place, way)", "comes_at(net, moment, way)",
        "waits_on(net, moment, way)",
    ),
    "turning": ("top_of(net)", "turned_net(net, top)", "turned_way(way)"),
    "earliest": ("earliest(net, place, moment)", "early_way(net, place, moment, other)"),
    "floors": ("floor_holds(net, place, moment, thing)",),
    "earlypapers": ("early_paper(net, place, moment, other)",),
    "earlychecks": ("early_paper_holds(net, place, moment, other, thing)",),
    "latest": ("latest(net, place, moment)",),
    "latepapers": ("late_paper(net, one, place, moment)",),
    "latechecks": ("ceiling_holds(net, place, moment, thing)", "late_paper_holds(net, one, place, moment, thing)"),
    "times": ("least_time(net, one, moment, other)", "time_paper(net, one, moment, other)"),
    "timechecks": ("time_paper_holds(net, one, moment, other, thing)",),
    "fewest": ("fewest(net, place, moment, other, by)", "meets_paper(net, place, moment, other, by)"),
    "meetchecks": ("meets_paper_holds(net, place, moment, other, by, thing)",),
    "reach": ("reach(net, one, other)",),
    "reachpapers": ("reach_paper(net, one, other)",),
    "reachchecks": ("reach_paper_holds(net, one, other, thing)",),
    "waiting": ("waiting(net, place, moment, bound)",),
    "waitpapers": ("wait_paper(net, place, moment, other, bound)",),
    "waitchecks": ("wait_paper_holds(net, place, moment, other, bound, thing)",),
    "spreading": ("spread(net, hands)", "spread_way(net, hands, place)"),
    "spreadchecks": ("spread_holds(net, hands, thing)",),
    "parting": ("parted(net, place, moment, other, by)",),
    "partchecks": ("parted_holds(net, place, moment, other, by, thing)",),
    "losing": (
        "places_lost(net, place, moment, other, by)", "places_apart(net, place, moment, other, by)",
        "lost_paper(net, place, moment, other, by)", "gap()",
    ),
    "losschecks": ("lost_paper_holds(net, place, moment, other, by, thing)",),
    "plain": ("plain(net)", "thinned(net)"),
    "alike": ("are_alike(one, other)", "alike_paper(one, other)"),
    "alikechecks": ("alike_paper_holds(one, other, thing)",),
}

CLASSES = {
    ("tables", "Tables(many)"): (
        "tell(self, meeting)", "strike(self, number)", "table(self, one, other)", "standing(self)"),
    ("stand", "Stand(many)"): (
        "tell(self, meeting)", "strike(self, number)", "go_on(self, moment)", "ask(self, place, moment, other)",
        "said(self, number)", "turned(self)", "late(self)", "deeds(self)", "known(self, count)", "net(self)", "standing(self)"),
    ("desk", "Desk(many)"): ("say(self, text)",),
}


class Interface(unittest.TestCase):
    def test_all_that_is_listed_is_there(self):
        for module_name, listed in LISTED.items():
            module = importlib.import_module("meetways." + module_name)
            for line in listed:
                name = line.partition("(")[0]
                self.assertEqual(name + str(inspect.signature(getattr(module, name))), line)

    def test_all_methods_are_defined_in_their_class_itself(self):
        for (module_name, line), methods in CLASSES.items():
            module = importlib.import_module("meetways." + module_name)
            name = line.partition("(")[0]
            kind = getattr(module, name)
            self.assertEqual(name + str(inspect.signature(kind)), line)
            for method in methods:
                name = method.partition("(")[0]
                self.assertEqual(name + str(inspect.signature(vars(kind)[name])), method)


if __name__ == "__main__":
    unittest.main()
