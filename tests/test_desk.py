"""Point 30: a desk."""

import random
import re
import unittest

import helper
from meetways.desk import Desk
from meetways.earliest import earliest
from meetways.errors import MeetError, NoMeeting, NoMoment, NoNumber, NoRow
from meetways.fewest import fewest
from meetways.latest import latest
from meetways.nettexts import show_net
from meetways.parting import parted
from meetways.plain import plain
from meetways.reach import reach
from meetways.spreading import spread
from meetways.stand import Stand
from meetways.times import least_time
from meetways.waiting import waiting

FIGURES = "(0|[1-9][0-9]*)"
# p stands for a place, n for any number; the two places of rows with u are unlike.
SHAPES = {
    "to": "ppnn", "both": "ppnn", "strike": "n", "go": "n", "ask": "pnp", "said": "n", "turned": "", "late": "", "known": "n",
    "show": "", "plain": "", "leave": "ppn", "time": "pnu", "meets": "pnpn", "wait": "pnpn", "reach": "pu", "part": "pnun",
}
ROWS = (
    "both 0 1 0 2", "to 1 2 2 5", "strike 0", "go 7", "ask 0 0 2", "said 0", "turned", "late", "known 1", "show", "plain",
    "leave 0 2 9", "time 0 0 2", "meets 0 0 2 9", "wait 0 0 2 1", "reach 0 2", "spread 0:0 2:1", "part 0 0 2 9")


def words_of_row(many, text):
    """The words of a row, or None where the text is none: the point's own forms, by their patterns."""
    if type(text) is not str:
        return None
    words = text.split(" ")
    if words[0] == "spread":
        if not re.fullmatch(f"spread( {FIGURES}:{FIGURES}){{1,6}}", text):
            return None
        hands = tuple(tuple(map(int, word.split(":"))) for word in words[1:])
        fit = all(place < many and place <= 10 ** 13 and moment <= 10 ** 13 for place, moment in hands)
        return ("spread", hands) if fit else None
    if words[0] not in SHAPES:
        return None
    shape = SHAPES[words[0]]
    if not re.fullmatch(words[0] + f" {FIGURES}" * len(shape), text):
        return None
    numbers = tuple(map(int, words[1:]))
    if [1 for kind, number in zip(shape, numbers) if number > 10 ** 13 or (kind in "pu" and number >= many)]:
        return None
    places = [number for kind, number in zip(shape, numbers) if kind in "pu"]
    if ("u" in shape or words[0] in ("to", "both")) and places[0] == places[1]:
        return None
    if words[0] in ("to", "both") and numbers[3] < 1:
        return None
    return words[0], numbers


def shown(things, lacking):
    return " ".join(things) if things else lacking


def net_shown(net):
    return show_net(net).replace("\n", " / ")


def answered(stand, words):
    """What the point says to a row, by the functions, of a stand that is told and asked beside."""
    word, numbers = words
    net = stand.net()
    if word in ("to", "both"):
        return str(stand.tell((word, *numbers)))
    if word == "strike":
        stand.strike(*numbers)
        return "ok"
    if word == "go":
        stand.go_on(*numbers)
        return "ok"
    if word == "ask":
        number, answer = stand.ask(*numbers)
        return f"{number} {'never' if answer is None else answer}"
    if word == "said":
        return " ".join("never" if part is None else str(part) for part in stand.said(*numbers))
    if word in ("turned", "late"):
        return shown([str(number) for number in (stand.turned() if word == "turned" else stand.late())], "none")
    if word in ("known", "show", "plain"):
        return net_shown({"known": stand.known, "show": stand.net, "plain": lambda: plain(net)}[word](*numbers))
    if word == "reach":
        return shown([f"{leave}-{come}" for leave, come in reach(net, *numbers)], "none")
    if word == "spread":
        return " ".join("none" if part is None else f"{part[0]}:{part[1]}" for part in spread(net, numbers))
    if word == "part":
        return str(len(parted(net, *numbers)[1]))
    if word == "leave":
        told = latest(net, numbers[1], numbers[2])[numbers[0]]
    elif word == "time":
        told = least_time(net, *numbers)
    elif word == "meets":
        told = fewest(net, *numbers)
    else:
        told = waiting(net, numbers[0], numbers[1], numbers[3])[numbers[2]]
    return "never" if told is None else str(told)


class Watched:
    """A desk beside a stand."""

    def __init__(self, test, many):
        self.test = test
        self.many = many
        self.desk = Desk(many)
        self.stand = Stand(many)
        self.asks = 0

    def all_told(self):
        """All that can be asked without a change."""
        told = [self.desk.say(row) for row in ("show", "plain", "turned", "late")]
        told += [self.desk.say(f"known {count}") for count in range(self.stand.deeds() + 1)]
        return told + [self.desk.say(f"said {number}") for number in range(self.asks)]

    def right_told(self):
        rows = ["show", "plain", "turned", "late"] + [f"known {count}" for count in range(self.stand.deeds() + 1)]
        rows += [f"said {number}" for number in range(self.asks)]
        return [answered(self.stand, words_of_row(self.many, row)) for row in rows]

    def check(self):
        self.test.assertEqual(self.all_told(), self.right_told())

    def say(self, thing):
        """Say it; the answer, or the refusal, is the right one."""
        words = words_of_row(self.many, thing)
        if words is None:
            return self.refused(NoRow, thing)
        try:
            right = answered(self.stand, words)
        except MeetError as refusal:
            return self.refused(type(refusal), thing)
        told = self.desk.say(thing)
        self.test.assertIs(type(told), str)
        self.test.assertEqual(told, right, thing)
        self.asks += words[0] == "ask"
        return told

    def refused(self, kind, thing):
        """It is refused with just this class, and changes nothing."""
        before = self.all_told()
        with self.test.assertRaises(kind, msg=repr(thing)[:200]) as caught:
            self.desk.say(thing)
        self.test.assertIs(type(caught.exception), kind, repr(thing)[:200])
        self.test.assertEqual(self.all_told(), before)


class Rows(unittest.TestCase):
    def test_by_hand(self):
        desk = Desk(4)
        for row, answer in (
            ("show", "places 4"), ("plain", "places 4"), ("known 0", "places 4"), ("turned", "none"), ("late", "none"),
            ("reach 0 2", "none"), ("part 0 0 2 9", "0"), ("spread 3:5", "none none none 5:0"), ("both 0 1 0 2", "0"),
            ("ask 0 0 2", "0 never"), ("to 1 2 2 5", "1"), ("ask 0 0 2", "1 7"), ("ask 3 8 3", "2 8"), ("turned", "0"),
            ("said 0", "0 0 2 never"), ("said 1", "0 0 2 7"), ("said 2", "3 8 3 8"),
            ("show", "places 4 / both 0 1 0 2 / to 1 2 2 5"), ("plain", "places 4 / to 0 1 0 2 / to 1 0 0 2 / to 1 2 2 5"),
            ("leave 0 2 9", "0"), ("leave 0 2 7", "0"), ("leave 0 2 6", "never"), ("leave 1 2 7", "2"), ("leave 2 2 3", "3"),
            ("time 0 0 2", "7"), ("time 1 0 2", "5"), ("time 0 1 2", "never"), ("meets 0 0 2 9", "2"), ("meets 0 0 2 6", "never"),
            ("meets 2 5 2 5", "0"), ("meets 2 5 2 4", "never"), ("wait 0 0 2 0", "7"), ("wait 1 0 2 1", "never"),
            ("wait 1 0 2 2", "7"), ("wait 3 4 3 0", "4"), ("reach 0 2", "0-7"), ("reach 1 2", "2-7"), ("reach 2 0", "none"),
            ("spread 0:0 2:6", "0:0 2:0 6:1 none"), ("spread 2:6 0:0", "0:1 2:1 6:0 none"), ("spread 1:1", "none 1:0 7:0 none"),
            ("part 0 0 2 9", "1"), ("part 0 0 2 6", "0"), ("go 3", "ok"), ("to 0 2 2 1", "2"), ("late", "2"), ("turned", "0 1"),
            ("to 0 2 3 10", "3"), ("reach 0 2", "2-3 3-13"), ("part 0 0 2 13", "3"), ("strike 2", "ok"), ("turned", "0"),
            ("late", "none"), ("go 3", "ok"), ("to 0 3 0 1", "4"), ("both 0 3 0 1", "5"), ("late", "4 5"), ("strike 4", "ok"),
            ("show", "places 4 / both 0 1 0 2 / to 1 2 2 5 / to 0 2 3 10 / both 0 3 0 1"),
            ("known 3", "places 4 / both 0 1 0 2 / to 1 2 2 5 / to 0 2 2 1"), ("known 2", "places 4 / both 0 1 0 2 / to 1 2 2 5"),
            ("known 8", "places 4 / both 0 1 0 2 / to 1 2 2 5 / to 0 2 3 10 / both 0 3 0 1"), ("ask 0 3 2", "3 13"),
            ("spread 0:0 1:0 2:0 3:0 0:0 1:0", "0:0 0:1 0:2 0:3"), ("go 10000000000000", "ok"),
        ):
            self.assertEqual(desk.say(row), answer, row)

    def test_ends_and_answers_may_be_greater(self):
        desk = Desk(3)
        for row, answer in (
            ("to 0 1 10000000000000 10000000000000", "0"), ("to 0 1 0 10000000000000", "1"), ("ask 0 1 1", "0 20000000000000"),
            ("said 0", "0 1 1 20000000000000"), ("reach 0 1", "0-10000000000000 10000000000000-20000000000000"),
            ("spread 0:10000000000000", "10000000000000:0 20000000000000:0 none"), ("time 0 0 1", "10000000000000"),
            ("wait 0 5 1 10000000000000", "20000000000000"), ("part 0 0 1 10000000000000", "1"),
            ("show", "places 3 / to 0 1 10000000000000 10000000000000 / to 0 1 0 10000000000000"),
        ):
            self.assertEqual(desk.say(row), answer, row)

    def test_each_row_beside_the_functions(self):
        dice = random.Random(79)
        for net in helper.small_nets() + helper.great_nets():
            if helper.FORTY > max([meeting[3] for meeting in net[1]], default=0):
                watched = Watched(self, net[0])
                for _ in range(40):
                    watched.say(self.some_row(dice, net, watched))
                watched.check()

    def test_great_nets_that_stand(self):
        dice = random.Random(80)
        for net in helper.great_nets():
            watched = Watched(self, net[0])
            for meeting in net[1]:
                watched.say(" ".join(map(str, meeting)))
            for row in ("show", "plain", "known 7"):
                watched.say(row)
            for _ in range(25):
                row = self.some_row(dice, net, watched)
                if row.partition(" ")[0] not in ("to", "both", "strike"):
                    watched.say(row)

    def some_row(self, dice, net, watched):
        """A row that is one, most times; its numbers are few, so that many are right."""
        moments = [moment for moment in helper.moments_of(net) if moment <= helper.FAR]
        many = net[0]
        word = dice.choice(sorted(SHAPES) + ["spread", "to", "both", "to", "both", "ask", "strike"])
        if word in ("to", "both") and net[1]:
            return " ".join(map(str, dice.choice(net[1])))
        if word == "spread":
            hands = [f"{dice.randrange(many)}:{dice.choice(moments)}" for _ in range(dice.randint(1, 6))]
            return " ".join(["spread"] + hands)
        numbers = [dice.randrange(many) if kind in "pu" else dice.choice(moments) for kind in SHAPES[word]]
        if word in ("strike", "said", "known"):
            numbers = [dice.randint(0, {"strike": 6, "said": watched.asks, "known": watched.stand.deeds() + 1}[word])]
        if word == "go":
            numbers = [dice.choice(moments[:6])]
        return " ".join([word] + [str(number) for number in numbers])

    def test_two_beside_one_another(self):
        dice = random.Random(81)
        net = helper.some_net(dice, 4, 12, 9, 3)
        first, second = Watched(self, 4), Watched(self, 4)
        for _ in range(120):
            watched = dice.choice((first, second))
            watched.say(self.some_row(dice, net, watched))
        first.check()
        second.check()
        self.assertNotEqual(first.desk.say("show"), second.desk.say("show"))

    def test_the_same_is_told_the_same(self):
        watched = self.some_watched()
        self.assertEqual(watched.all_told(), watched.all_told())
        for row in ROWS[8:]:
            self.assertEqual(watched.desk.say(row), watched.desk.say(row))

    def some_watched(self):
        watched = Watched(self, 4)
        for row in ("both 0 1 0 2", "ask 0 0 2", "to 1 2 2 5", "ask 0 0 2", "to 0 3 5 1", "strike 2", "go 6", "to 0 2 5 1"):
            watched.say(row)
        return watched

    def test_asks_beside_the_earliest(self):
        watched = self.some_watched()
        net = watched.stand.net()
        for place in range(4):
            for other in range(4):
                come = earliest(net, place, 0)[other]
                told = watched.say(f"ask {place} 0 {other}")
                self.assertEqual(told, f"{watched.asks - 1} {'never' if come is None else come}")

    def test_one_place_alone(self):
        watched = Watched(self, 1)
        for row in ("show", "ask 0 3 0", "spread 0:4 0:3", "leave 0 0 7", "meets 0 1 0 1", "wait 0 1 0 0", "to 0 0 0 1",
                    "to 0 1 0 1", "reach 0 0", "time 0 0 0", "part 0 0 0 0", "ask 0 0 1", "plain"):
            watched.say(row)
        self.assertEqual(watched.desk.say("spread 0:4 0:3"), "3:1")
        watched.check()


class Refusals(unittest.TestCase):
    def some_watched(self):
        return Rows.some_watched(self)

    def test_each_row_put_otherwise(self):
        watched = self.some_watched()
        for row in ROWS:
            words = row.split(" ")
            things = {row + " ", " " + row, row + "\n", "\n" + row, row + " 1", row + " x", row.upper(), row.title(), row + "."}
            things |= {row.replace(" ", "  "), row.replace(" ", "\n"), row.replace(" ", "\t"), row.replace(" ", ""), row + " 0:0"}
            things |= {row.replace(" ", ", "), row.replace(" ", "_"), row + "\x00", row + "\u00a0", row.replace(" ", "\u00a0")}
            for at in range(len(words)):
                things.add(" ".join(words[:at] + words[at + 1:]))
                things.add(" ".join(words[:at] + words[at:at + 1] * 2 + words[at + 1:]))
                for other in ("x", "", "-1", "+1", "01", "00", "1.0", "1e1", "10000000000001", "9" * 4000, "4", "99", "to", "both",
                              "True", "None", "\u0661", "\u00b2", "0x1", "1_0", "1 ", "ok", "never", "none", "strike", "3", "0", "1:1",
                              "0:0", ":", "0:", ":0", "0:0:0", "4:0", "0:-1", "00:0", "0:00", "0:10000000000001", "10000000000000",
                              "0:10000000000000", "places", "deeds", "standing", "net", "said\n", "turned", "show"):
                    things.add(" ".join(words[:at] + [other] + words[at + 1:]))
                for further in range(at):
                    put = list(words)
                    put[at], put[further] = put[further], put[at]
                    things.add(" ".join(put))
            for thing in sorted(things):
                if words_of_row(4, thing) is None:
                    watched.refused(NoRow, thing)
        watched.check()
        for row in ROWS:
            watched.say(row)
        watched.check()

    def test_a_nought_ahead_and_numbers_above(self):
        watched = self.some_watched()
        for row in (
            "strike 00", "strike 01", "go 07", "go 10000000000001", "ask 00 0 2", "ask 0 00 2", "ask 0 0 02", "said 00",
            "said 10000000000001", "known 01", "known 10000000000001", "strike 10000000000001", "leave 0 2 10000000000001",
            "time 0 10000000000001 2", "meets 0 0 2 10000000000001", "wait 0 0 2 10000000000001", "part 0 0 2 10000000000001",
            "spread 0:10000000000001", "to 0 1 10000000000001 1", "to 0 1 0 10000000000001", "ask 0 10000000000001 2",
            "meets 0 10000000000001 2 0", "wait 0 10000000000001 2 0", "part 0 10000000000001 2 0", "said " + "9" * 3000,
        ):
            watched.refused(NoRow, row)
        for row, kind in (
            ("strike 10000000000000", NoNumber), ("said 10000000000000", NoNumber), ("known 10000000000000", NoNumber),
            ("go 5", NoMoment), ("go 0", NoMoment), ("strike 2", NoNumber), ("said 2", NoNumber), ("known 7", NoNumber),
        ):
            watched.refused(kind, row)
        watched.check()

    def test_no_meetings(self):
        watched = self.some_watched()
        for row in (
            "to 0 0 0 1", "to 0 4 0 1", "to 4 0 0 1", "to 0 1 0 0", "to 0 1 0", "to 0 1 0 1 1", "to", "both", "To 0 1 0 1", "from 0 1 0 1",
            "to 0 1 -1 1", "to 0 1 0 -1", "both 2 2 0 1", "both 0 1 0 0", "to 00 1 0 1", "to 0 01 0 1", "to 0 1 00 1", "to 0 1 0 01",
            "to 0 1 0 1 ", "to  0 1 0 1", " to 0 1 0 1", "to 0 1 0 1\n", "to 0 1 0 1\nto 0 1 0 1", "to 0 1 0 1 / to 0 1 0 1", "0 1 0 1",
            "places 4", "places 4\nto 0 1 0 1",
        ):
            watched.refused(NoRow, row)
        watched.check()

    def test_unlike_places(self):
        watched = self.some_watched()
        for place in range(4):
            for row in (f"time {place} 0 {place}", f"reach {place} {place}", f"part {place} 0 {place} 9", f"to {place} {place} 0 1"):
                watched.refused(NoRow, row)
            for row in (f"ask {place} 2 {place}", f"leave {place} {place} 2", f"meets {place} 2 {place} 2", f"wait {place} 2 {place} 0"):
                watched.say(row)
        watched.check()

    def test_hands(self):
        watched = self.some_watched()
        for count in range(1, 7):
            watched.say("spread" + " 0:0" * count)
            watched.say("spread" + "".join(f" {at % 4}:{7 * at}" for at in range(count)))
        for row in (
            "spread", "spread ", "spread" + " 0:0" * 7, "spread" + " 0:0" * 900, "spread 0", "spread 0 0", "spread 0:0 1", "spread 0-0",
            "spread 4:0", "spread 0:0,1:0", "spread 0:0:0", "spread :", "spread 0:", "spread :0", "spread 0: 0", "spread 0 :0",
            "spread 00:0", "spread 0:00", "spread 0:-1", "spread -1:0", "spread 0:0 ", "spread  0:0", "spread 0:0\n", "spread none",
            "spread 10000000000001:0", "Spread 0:0", "spread 0:0 0:x", "spread 0;0", "spread:0:0",
        ):
            watched.refused(NoRow, row)
        watched.check()

    def test_the_order_of_refusals(self):
        watched = Watched(self, 4)
        for at in range(40):
            watched.say(f"to 0 1 {at} 5")
        watched.say("go 50")
        for row in ("to 0 1 0 1", "both 2 3 9 9", "to 0 1 0 10000000000000"):
            watched.refused(NoMeeting, row)
        for row in ("to 0 0 0 1", "to 0 4 0 1", "to 0 1 0 0", "to 0 1 0", "to 0 1 0 10000000000001", "both 0 1 00 1", "to 0 1 0 1 1"):
            watched.refused(NoRow, row)
        for row, kind in (
            ("strike 40", NoNumber), ("strike 040", NoRow), ("strike 40 40", NoRow), ("strike -1", NoRow), ("go 49", NoMoment),
            ("go 049", NoRow), ("go -1", NoRow), ("go 49 49", NoRow), ("said 0", NoNumber), ("said x", NoRow), ("known 41", NoNumber),
            ("known 41x", NoRow),
        ):
            watched.refused(kind, row)
        watched.check()
        watched.say("strike 17")
        watched.say("to 0 1 0 1")
        watched.refused(NoMeeting, "to 0 1 0 1")
        watched.refused(NoNumber, "strike 17")
        watched.check()

    def test_what_is_refused_leaves_the_moment(self):
        watched = self.some_watched()
        for row, kind in (("go 5", NoMoment), ("go 10000000000001", NoRow), ("go 9 ", NoRow), ("go", NoRow), ("go 09", NoRow)):
            watched.refused(kind, row)
        watched.say("to 0 1 6 1")
        watched.say("to 0 1 5 1")
        self.assertEqual(watched.say("late"), "3 5")
        watched.say("go 6")
        watched.refused(NoMoment, "go 5")
        watched.check()

    def test_things_that_are_no_texts(self):
        watched = self.some_watched()
        for thing in helper.ODD_THINGS:
            watched.refused(NoRow, thing)
        for row in ROWS:
            for thing in (row.encode(), [row], (row,), {row: row}, row.split(" "), tuple(row.split(" ")), tuple(row)):
                watched.refused(NoRow, thing)
        for thing in ("", " ", "\n", "ok", "never", "none", "places", "x" * 4000, " " * 4000, "show " * 800, "0", "tell", "net"):
            watched.refused(NoRow, thing)
        watched.check()

    def test_any_signs(self):
        dice = random.Random(82)
        watched = self.some_watched()
        signs = "0123456789 :-totwaspreadbh\n~"
        for _ in range(1500):
            row = dice.choice(ROWS)
            for _ in range(dice.randint(1, 3)):
                at = dice.randrange(len(row) + 1)
                row = row[:at] + dice.choice(("", dice.choice(signs))) + row[at + dice.randint(0, 1):]
            if words_of_row(4, row) is None:
                watched.refused(NoRow, row)
            elif row.partition(" ")[0] not in ("to", "both", "ask"):
                watched.say(row)
        watched.check()


if __name__ == "__main__":
    unittest.main()
