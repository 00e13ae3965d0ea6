"""Point 6: nets written and read."""

import unittest

import helper
from meetways.errors import NoText
from meetways.nettexts import read_net, show_net

TEXT = "places 3\nto 0 1 0 2\nboth 2 1 10 5"
NET = (3, (("to", 0, 1, 0, 2), ("both", 2, 1, 10, 5)))


class Texts(unittest.TestCase):
    def refused(self, thing):
        with self.assertRaises(NoText, msg=repr(thing)[:80]):
            read_net(thing)

    def test_by_hand(self):
        self.assertEqual(show_net(NET), TEXT)
        self.assertEqual(read_net(TEXT), NET)
        self.assertEqual(show_net((1, ())), "places 1")
        self.assertEqual(read_net("places 1"), (1, ()))
        self.assertEqual(read_net("places 10"), (10, ()))
        self.assertEqual(read_net("places 2\nto 1 0 0 1\nto 1 0 0 1"), (2, (("to", 1, 0, 0, 1),) * 2))

    def test_written_and_read_back(self):
        for net in helper.small_nets() + helper.great_nets():
            text = show_net(net)
            self.assertIs(type(text), str)
            self.assertTrue(helper.same(read_net(text), net))

    def test_kinds_of_what_is_read(self):
        many, meetings = read_net(TEXT)
        self.assertIs(type(read_net(TEXT)), tuple)
        self.assertIs(type(many), int)
        self.assertIs(type(meetings), tuple)
        for meeting in meetings:
            self.assertEqual([type(part) for part in meeting], [str, int, int, int, int])

    def test_long_numbers(self):
        for figures in (14, 19, 40, 300, 3900, 4200, 6000):
            digits = "1" + "0234567809" * (figures // 10)
            text = f"places 2\nto 0 1 {digits} 1"
            net = read_net(text)
            number = 0
            for digit in digits:
                number = 10 * number + ord(digit) - ord("0")
            self.assertEqual(net[1][0][3], number)
            self.assertEqual(show_net(net), text)
            text = f"places {digits}\nto {digits[:-1]} 1 0 {digits}"
            self.assertEqual(show_net(read_net(text)), text)
            self.assertEqual(read_net("places " + digits), (number, ()))

    def test_round_numbers(self):
        for number in (1, 9, 10, 11, 99, 100, 101, 10 ** 13, 10 ** 18 - 1, 10 ** 18, 10 ** 39, 7 * 10 ** 40):
            self.assertEqual(show_net((number, ())), "places " + str(number))
            self.assertEqual(read_net("places " + str(number)), (number, ()))

    def test_many_meetings(self):
        net = (2, (("to", 0, 1, 0, 1),) * 380)
        self.assertEqual(read_net(show_net(net)), net)

    def test_no_net(self):
        for text in (
            "", "places", "places ", "places 0", "places -1", "places +1", "places 01", "places 00", "places 1 ",
            " places 1", "places  1", "places 1 1", "Places 1", "place 1", "places one", "places 1\n", "\nplaces 1",
            "places\n1", "1", "places 1.", "places 1_0", "places 0x1", "places 1\t", "places\t1", "places 1\r",
            "places 1\nto 0 1 0 1", "places 2\nto 0 0 0 1", "places 2\nto 0 2 0 1", "places 2\nto 2 0 0 1",
            "places 2\nto 0 1 0 0", "places 2\nto 0 1 0 -1", "places 2\nto 0 1 -1 1", "places 2\nto -1 1 0 1",
            "places 2\nto 0 1 0", "places 2\nto 0 1 0 1 1", "places 2\nto 0 1 0 1 ", "places 2\nto  0 1 0 1",
            "places 2\n to 0 1 0 1", "places 2\nto 0 1 0 1\n", "places 2\n\nto 0 1 0 1", "places 2\nto 00 1 0 1",
            "places 2\nto 0 01 0 1", "places 2\nto 0 1 00 1", "places 2\nto 0 1 0 01", "places 2\nTo 0 1 0 1",
            "places 2\nfrom 0 1 0 1", "places 2\n0 1 0 1", "places 2\n 0 1 0 1", "places 2\nto 0 1 0 1_0",
            "places 2\nto 0 1 +0 1", "places 2\nto 0 1 0 1.0", "places 2\nto 0 1 0 1 places 2", "to 0 1 0 1",
            "places 2 to 0 1 0 1", "places 2 / to 0 1 0 1", "places 2\nplaces 2", "places 2\nto 0 1 0 True",
            "places 2\nto 0 1 0 None", "places 2\nto 0 1 0 \u0661", "places \u00b2", "places \uff11",
            "places 2\r\nto 0 1 0 1", "places 2\x0bto 0 1 0 1", "places 2\x0cto 0 1 0 1", "places 2\u2028to 0 1 0 1",
            "places 0" + "1" * 3000, "places " + "1" * 3000 + "x", "places " + "0" * 3000,
        ):
            self.refused(text)

    def test_each_sign_put_otherwise(self):
        for at in range(len(TEXT) + 1):
            tries = {TEXT[:at] + TEXT[at + 1:]}
            for sign in " \n0179-+_.tobh/":
                tries |= {TEXT[:at] + sign + TEXT[at:], TEXT[:at] + sign + TEXT[at + 1:]}
            for text in sorted(tries):
                self.judged(text)

    def judged(self, text):
        """Only the texts that are written for some net are read."""
        try:
            net = read_net(text)
        except NoText:
            self.assertFalse(self.might_be_one(text), text)
            return
        self.assertTrue(helper.right_net(net), text)
        self.assertEqual(show_net(net), text)

    def might_be_one(self, text):
        """Whether the text is that of the net that a loose reader sees in it."""
        head, *rest = text.split("\n")
        try:
            many = int(head.split()[1])
            meetings = tuple((word, int(a), int(b), int(c), int(d)) for word, a, b, c, d in map(str.split, rest))
        except (ValueError, IndexError):
            return False
        again = "\n".join([f"places {many}"] + [" ".join(map(str, meeting)) for meeting in meetings])
        return again == text and helper.right_net((many, meetings))

    def test_what_is_no_text(self):
        for thing in helper.ODD_THINGS + (NET, [TEXT], (TEXT,), {TEXT: TEXT}, TEXT.split("\n")):
            if thing not in ("places 1", "places 2\nto 0 1 0 1"):
                self.refused(thing)


if __name__ == "__main__":
    unittest.main()
