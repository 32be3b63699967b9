"""Texts: point 9."""

import unittest

from ordersbehind.errors import BadText, NotClosed
from ordersbehind.orders import Order
from ordersbehind.texts import order_from, order_text, web_from, web_text
from ordersbehind.webs import Web
from tests.case import Case
from tests.plainly import every_order, small_webs

OTHER_DIGITS = ["\u0661", "\u00b2", "\uff11", "\u0967"]
OTHER_ENDS = ["\r\n", "\r", "\x0b", "\x0c", "\x1c", "\x1d", "\x1e", "\x85", "\u2028", "\u2029"]


class WritingTest(Case):

    def test_webs(self):
        self.same(web_text(Web(4, [(3, 2), (0, 1), (2, 0)])), "things 4\ntie 0 1\ntie 0 2\ntie 2 3\n")
        self.same(web_text(Web(1)), "things 1\n")
        self.same(web_text(Web(40, [(39, 10), (9, 2)])), "things 40\ntie 2 9\ntie 10 39\n")

    def test_orders(self):
        self.same(order_text(Order(3, [(2, 0), (1, 0)])), "things 3\nbelow 1 0\nbelow 2 0\n")
        self.same(order_text(Order(2)), "things 2\n")

    def test_back(self):
        for told in small_webs():
            text = web_text(Web(*told))
            self.assertTrue(web_from(text) == Web(*told))
            self.assertTrue(web_from(text[:-1]) == Web(*told))
        for arrows in every_order(4):
            text = order_text(Order(4, arrows))
            self.assertTrue(order_from(text) == Order(4, arrows))
            self.assertTrue(order_from(text[:-1]) == Order(4, arrows))
        self.assertTrue(web_from(web_text(Web.full(40))) == Web.full(40))
        self.assertTrue(order_from(order_text(Order.along(list(range(40))[::-1])))
                        == Order.along(list(range(40))[::-1]))


class ReadingTest(Case):

    def both(self, line, text):
        """Both readers find the same bad line, if the text is written with the word for a tie."""
        self.told(BadText, {"line": line}, web_from, text)
        self.told(BadText, {"line": line}, order_from, text.replace("tie", "below"))

    def test_any_sequence(self):
        w = web_from("things 4\ntie 3 2\ntie 0 1\ntie 2 1")
        self.same((w.size, w.ties), (4, ((0, 1), (1, 2), (2, 3))))
        self.assertIs(w.__class__, Web)
        p = order_from("things 4\nbelow 3 2\nbelow 0 1\n")
        self.same((p.size, p.arrows), (4, ((0, 1), (3, 2))))
        self.assertIs(p.__class__, Order)

    def test_no_string(self):
        for value in (None, 3, True, b"things 1\n", ["things 1"], ("things 1\n",), {}, Web(1)):
            self.told(BadText, {"line": 1}, web_from, value)
            self.told(BadText, {"line": 1}, order_from, value)

    def test_first_line(self):
        for line in ("", " ", "things", "things ", "things 0", "things 41", "things 99", "things 100", "things -1",
                     "things +3", "things 03", "things 00", "things 3 ", " things 3", "things  3", "things\t3",
                     "thing 3", "Things 3", "THINGS 3", "things 3 3", "things3", "things 3.0", "things 0x3",
                     "things 1_0", "tie 0 1", "3 things", "things three", "things 3\r", "things " + "1" * 5000):
            for rest in ("", "\n", "\ntie 0 1\n", "\ntie 0 0\n", "\n\n"):
                self.both(1, line + rest)
        for digit in OTHER_DIGITS:
            self.both(1, "things " + digit)
            self.both(1, "things 1" + digit)

    def test_sizes(self):
        for size in (1, 9, 10, 39, 40):
            self.same(web_from(f"things {size}").size, size)
            self.same(order_from(f"things {size}\n").size, size)

    def test_further_lines(self):
        for line in ("", " ", "tie", "tie ", "tie 0", "tie 0 ", "tie 0 1 ", " tie 0 1", "tie  0 1", "tie 0  1",
                     "tie\t0 1", "tie 0\t1", "tie 0 1 2", "ties 0 1", "Tie 0 1", "tie 00 1", "tie 0 01", "tie 0 -1",
                     "tie -1 0", "tie 0 +1", "tie 0 0", "tie 1 1", "tie 0 12", "tie 12 0", "tie 0 13", "tie 40 0",
                     "tie a b", "tie 0 1.0", "tie 0,1", "0 1", "things 12", "tie 0 1\r", "tie 0 " + "1" * 5000):
            self.both(2, "things 12\n" + line + "\n")
            self.both(3, "things 12\ntie 2 3\n" + line + "\ntie 0 0")
            self.both(4, "things 12\ntie 10 11\ntie 2 3\n" + line + "\n")
        for digit in OTHER_DIGITS:
            self.both(2, f"things 12\ntie 0 {digit}")
            self.both(2, f"things 12\ntie {digit} 0")
            self.both(2, f"things 12\ntie 0 1{digit}")

    def test_every_sign(self):
        for code in range(256):
            sign = chr(code)
            if sign not in "0123456789\n":
                for word in (sign, "1" + sign, sign + "1"):
                    for line in (f"tie 1 {word}", f"tie {word} 1", f"tie 2 {word}", f"tie {word} 0"):
                        self.both(2, "things 12\n" + line + "\ntie 0 3\n")
                    self.both(1, f"things {word}")
                self.both(2, f"things 12\ntie{sign}{sign}0 1\n")
                self.both(2, f"things 12\ntie 0 1{sign}{sign}")

    def test_bad_numbers_beside_any_thing(self):
        for word in ("", "a", "-1", "+1", "00", "01", "1.", "12", "40", "100", "1" * 5000):
            for thing in range(12):
                self.both(2, f"things 12\ntie {thing} {word}\n")
                self.both(2, f"things 12\ntie {word} {thing}\n")

    def test_word_of_the_other(self):
        self.told(BadText, {"line": 2}, web_from, "things 3\nbelow 0 1\n")
        self.told(BadText, {"line": 2}, order_from, "things 3\ntie 0 1\n")

    def test_met_again(self):
        for again in ("tie 0 1", "tie 1 0"):
            self.both(3, "things 3\ntie 0 1\n" + again)
            self.both(4, "things 3\ntie 1 0\ntie 0 2\n" + again + "\ntie 9 9")

    def test_empty_lines(self):
        self.both(2, "things 3\n\n")
        self.both(2, "things 3\n\ntie 0 1\n")
        self.both(3, "things 3\ntie 0 1\n\n")
        self.both(1, "\nthings 3\n")

    def test_other_line_ends(self):
        for end in OTHER_ENDS:
            self.both(1, f"things 3{end}tie 0 1{end}")
            self.both(1, f"things 3{end}\ntie 0 1\n")
            self.both(2, f"things 3\ntie 0 1{end}tie 1 2{end}")
            self.both(2, f"things 3\ntie 0 1{end}")

    def test_first_bad_line(self):
        self.both(3, "things 3\ntie 0 1\ntie 0 3\ntie 0 0\n")
        self.both(1, "things 41\ntie 0 0\n")

    def test_not_closed(self):
        error = self.told(BadText, {"line": 0}, order_from, "things 3\nbelow 1 2\nbelow 0 1")
        cause = error.__cause__
        self.assertIs(cause.__class__, NotClosed)
        self.same((cause.first, cause.second, cause.third), (0, 1, 2))
        self.told(BadText, {"line": 0}, order_from, "things 3\nbelow 0 1\nbelow 1 2\nbelow 2 0\n")
        self.told(BadText, {"line": 4}, order_from, "things 3\nbelow 1 2\nbelow 0 1\nbelow 0 0\n")

    def test_other_errors_have_no_cause(self):
        self.assertIsNone(self.told(BadText, {"line": 1}, order_from, "").__cause__)


if __name__ == "__main__":
    unittest.main()
