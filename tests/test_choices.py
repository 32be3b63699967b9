"""Ways, one after the other: points 46 to 50."""

import unittest
from math import factorial

from ordersbehind.behind import Behind
from ordersbehind.choices import choice_text, contrary_ways, first_ways, next_ways, only_contraries, with_arrow
from ordersbehind.errors import BadPair, BadWays, NotTied
from ordersbehind.webs import Web
from tests.case import Case, strange_pairs, strange_wholes
from tests.plainly import FIVE, HAT, LONE, MIXED, NET, PATH, Look, every_web, middling_webs


def own_webs():
    """Webs with orders behind them, and the arrows of all these orders."""
    for told in list(middling_webs()) + list(every_web(5))[::29]:
        if len(told[1]) <= 9:
            orders = Look(*told).orders()
            if orders:
                yield told, orders


class WaysTest(Case):

    def test_one_after_the_other(self):
        for told, orders in own_webs():
            b = Behind(Web(*told))
            ways = first_ways(b)
            for number in range(b.many):
                self.same(b.number_of(b.order_of(ways)), number)
                self.same(ways, b.ways_of(b.at(number)))
                ways = next_ways(b, [list(entry) if isinstance(entry, tuple) else entry for entry in ways])
            self.same(ways, None)

    def test_first(self):
        self.same(first_ways(Behind(Web(*HAT))), ((0, 1), 0))
        self.same(first_ways(Behind(Web(*MIXED))), ((0, 1), 0, (0, 1)))
        self.same(first_ways(Behind(Web(3))), ())
        self.same(first_ways(Behind(Web.full(40))), (tuple(range(40)),))

    def test_next(self):
        b = Behind(Web(*HAT))
        self.same(next_ways(b, ((0, 1), 0)), ((0, 1), 1))
        self.same(next_ways(b, [[0, 1], 1]), ((1, 0), 0))
        self.same(next_ways(b, ((1, 0), 1)), None)
        self.same(next_ways(Behind(Web(3)), ()), None)
        self.same(next_ways(Behind(Web(3)), []), None)
        self.same(next_ways(Behind(Web.full(4)), ((0, 3, 2, 1),)), ((1, 0, 2, 3),))
        self.same(next_ways(Behind(Web.full(40)), [list(range(40))[::-1]]), None)

    def test_contrary(self):
        for told, _ in own_webs():
            b = Behind(Web(*told))
            for p in list(b.by_number())[:12]:
                ways = b.ways_of(p)
                self.same(contrary_ways(b, ways), b.ways_of(~p))
                self.same(contrary_ways(b, contrary_ways(b, list(ways))), ways)
        self.same(contrary_ways(Behind(Web(*HAT)), [[1, 0], 0]), ((0, 1), 1))
        self.same(contrary_ways(Behind(Web(2)), []), ())

    def test_bad_ways(self):
        b = Behind(Web(*HAT))
        for call in (next_ways, contrary_ways, choice_text):
            for value in strange_wholes() + [(), [], ((0, 1),), ((0, 1), 0, 0)]:
                self.told(BadWays, {"place": -1}, call, b, value)
            for value in (0, None, (0,), (0, 0), (1, 2), [0, 1, 2], "01", (False, True)):
                self.told(BadWays, {"place": 0}, call, b, (value, 2))
            for value in (2, -1, True, False, None, (0,), "0", 0.0):
                self.told(BadWays, {"place": 1}, call, b, [[1, 0], value])

    def test_argument_stays(self):
        b, ways = Behind(Web(*HAT)), [[0, 1], 1]
        found = next_ways(b, ways), contrary_ways(b, ways), choice_text(b, ways)
        self.assertEqual(ways, [[0, 1], 1])
        ways[0][0] = 5
        self.same(found[:2], (((1, 0), 0), ((1, 0), 0)))


class CountingTest(Case):

    def test_with_arrow(self):
        for told, orders in own_webs():
            b = Behind(Web(*told))
            for arrow in Look(*told).arrows():
                many = sum(arrow in arrows for arrows in orders)
                self.same(with_arrow(b, arrow), many)
                self.same(with_arrow(b, list(arrow)), many)
        self.same(with_arrow(Behind(Web.full(40)), (39, 0)), factorial(40) // 2)

    def test_with_arrow_errors(self):
        b = Behind(Web(3, [(0, 1)]))
        for value in strange_pairs(3):
            self.told(BadPair, {"place": 0}, with_arrow, b, value)
        self.told(NotTied, {"first": 2, "second": 1}, with_arrow, b, (2, 1))
        self.told(NotTied, {"first": 0, "second": 2}, with_arrow, b, [0, 2])

    def test_only_contraries(self):
        for told in middling_webs():
            if len(told[1]) <= 9:
                self.same(only_contraries(Web(*told)), len(Look(*told).orders()) == 2)
        for told in (FIVE, NET, HAT, LONE, MIXED, (1, ()), (40, ()), (3, ((0, 1), (0, 2), (1, 2)))):
            self.same(only_contraries(Web(*told)), False)
        for w in (Web.full(2), Web(40, [(a, a + 1) for a in range(39)]), Web(40, [(3, 9)]), Web(*PATH) | Web(3)):
            self.same(only_contraries(w), True)


class TextTest(Case):

    def test_text(self):
        b = Behind(Web(*MIXED))
        self.same(choice_text(b, [[1, 0], 1, (0, 1)]), "0 1 2 3 4 5 6 full 1 0\n0 1 2 3 4 5 firm 1\n1 2 full 0 1\n")
        self.same(choice_text(b, ((0, 1), 0, [1, 0])), "0 1 2 3 4 5 6 full 0 1\n0 1 2 3 4 5 firm 0\n1 2 full 1 0\n")
        self.same(choice_text(Behind(Web(12, [(11, 10), (10, 2)])), [(1, 0)]), "2 10 11 full 1 0\n")
        self.same(choice_text(Behind(Web.full(12)), ((11, 10, 0, 1, 2, 3, 4, 5, 6, 7, 8, 9),)),
                  "0 1 2 3 4 5 6 7 8 9 10 11 full 11 10 0 1 2 3 4 5 6 7 8 9\n")

    def test_nothing_tied(self):
        for size in (1, 2, 40):
            self.same(choice_text(Behind(Web(size)), ()), "")
            self.same(choice_text(Behind(Web(size)), []), "")

    def test_lines(self):
        for told, _ in own_webs():
            b = Behind(Web(*told))
            for p in list(b.by_number())[:4]:
                lines = []
                for number, entry in zip(b.places, b.ways_of(p)):
                    knot = b.wood.knots[number]
                    row = list(entry) if isinstance(entry, tuple) else [entry]
                    lines.append(" ".join(str(word) for word in list(knot.lot) + [knot.kind] + row) + "\n")
                self.same(choice_text(b, b.ways_of(p)), "".join(lines))


if __name__ == "__main__":
    unittest.main()
