"""Pins, and ties that tell all orders apart: points 67 and 68."""

import unittest
from itertools import combinations
from math import factorial

from ordersbehind.behind import Behind
from ordersbehind.colourwood import count_colours, count_loose
from ordersbehind.errors import BadPair, NotArrow, NotBehind, NotTied
from ordersbehind.flips import flip, loose
from ordersbehind.orders import Order
from ordersbehind.pins import count_pins, is_pin, pin, tells_apart
from ordersbehind.webs import Web
from tests.case import Case, strange_pairs, strange_wholes
from tests.plainly import HAT, LONE, MIXED, PATH, Look, nested_webs, turned_back, webs_with_orders


def subsets(pairs):
    return [some for many in range(len(pairs) + 1) for some in combinations(pairs, many)]


def few_ties():
    return [(told, orders) for told, orders in webs_with_orders() if len(told[1]) <= 6]


class PinTest(Case):

    def test_every_set_of_arrows(self):
        for told, orders in few_ties():
            b = Behind(Web(*told))
            for arrows in orders[::5]:
                self.look_at(b, orders, arrows)

    def look_at(self, b, orders, arrows):
        p = Order(b.web.size, arrows)
        pins = []
        for some in subsets(arrows):
            alone = [other for other in orders if set(some) <= set(other)] == [arrows]
            self.same(is_pin(b, p, some[::-1]), alone)
            if alone:
                pins.append(some)
        least = min(len(some) for some in pins)
        self.assertEqual(least, count_loose(b.wood))
        self.same(count_pins(b, p), len([some for some in pins if len(some) == least]))
        self.assertIn(pin(b, p), pins)
        self.assertEqual(len(pin(b, p)), least)

    def test_pin(self):
        for told, orders in webs_with_orders():
            b = Behind(Web(*told))
            for arrows in orders:
                p = Order(told[0], arrows)
                found = pin(b, p)
                self.same(found, tuple(sorted(tie if tie in arrows else tie[::-1] for tie in loose(b, p))))
                self.same(is_pin(b, p, found), True)
                self.same(is_pin(b, p, [list(arrow) for arrow in found]), True)
                for place in range(len(found)):
                    self.same(is_pin(b, p, found[:place] + found[place + 1:]), False)

    def test_count(self):
        for told, orders in webs_with_orders():
            b, look = Behind(Web(*told)), Look(*told)
            for arrows in orders[::3]:
                p, many = Order(told[0], arrows), 1
                for name in loose(b, p):
                    many *= len(look.colour_of(name))
                self.same(count_pins(b, p), many)

    def test_no_arrows(self):
        for size in (1, 2, 40):
            b = Behind(Web(size))
            p = b.at(0)
            self.same((is_pin(b, p, ()), is_pin(b, p, []), pin(b, p), count_pins(b, p)), (True, True, (), 1))
        b = Behind(Web(*PATH))
        self.same((is_pin(b, b.at(0), ()), is_pin(b, b.at(0), [])), (False, False))

    def test_large(self):
        b = Behind(Web.full(40))
        p = ~b.at(0)
        self.same(pin(b, p), tuple((a + 1, a) for a in range(39)))
        self.same((is_pin(b, p, pin(b, p)), is_pin(b, p, pin(b, p)[1:]), count_pins(b, p)), (True, False, 1))
        self.same(is_pin(b, p, p.arrows), True)
        b = Behind(Web(20) & Web(20))
        self.same((count_pins(b, b.at(1)), pin(b, b.at(1)), is_pin(b, b.at(0), [(19, 20)])), (400, ((20, 0),), True))
        for told in nested_webs(24, 5, 40):
            b = Behind(Web(*told))
            p = b.at(b.many // 2)
            self.same(is_pin(b, p, pin(b, p)), True)
            if loose(b, p):
                self.same(is_pin(b, flip(b, p, loose(b, p)[0]), ()), False)

    def test_errors(self):
        b = Behind(Web(*PATH))
        p, other = b.at(0), Order(4)
        for value in strange_wholes():
            self.told(BadPair, {"place": -1}, is_pin, b, other, value)
        for value in strange_pairs(4):
            self.told(BadPair, {"place": 0}, is_pin, b, p, [value])
            self.told(BadPair, {"place": 1}, is_pin, b, other, ((0, 2), value))
        self.told(BadPair, {"place": 1}, is_pin, b, p, [(0, 1), [0, 1]])
        self.told(BadPair, {"place": 2}, is_pin, b, p, [(0, 1), (2, 1), (1, 0)])
        self.told(NotBehind, {"first": 0, "second": 1}, is_pin, b, other, [(0, 3)])
        for call in (pin, count_pins):
            self.told(NotBehind, {"first": 0, "second": 1}, call, b, other)
            self.told(NotBehind, {"first": -1, "second": -1}, call, b, Order(5))

    def test_least_that_is_no_arrow(self):
        b = Behind(Web(*PATH))
        p = b.at(0)
        self.same(p.arrows, ((0, 1), (2, 1), (2, 3)))
        for arrows, pair in (([(3, 2), (1, 0)], (1, 0)), ([(3, 0), (0, 1), [3, 2]], (3, 0)), ([(2, 1), (3, 2)], (3, 2)),
                             (((2, 0), (1, 3)), (1, 3)), ([(3, 1), (2, 0)], (2, 0))):
            self.told(NotArrow, {"first": pair[0], "second": pair[1]}, is_pin, b, p, arrows)


class TellsApartTest(Case):

    def test_every_set_of_ties(self):
        for told, orders in few_ties():
            b = Behind(Web(*told))
            for some in subsets(told[1]):
                alike = {tuple(tie in arrows for tie in some) for arrows in orders}
                self.same(tells_apart(b, some), len(alike) == len(orders))

    def test_one_tie_of_each_colour(self):
        for told, _ in webs_with_orders():
            b, colours = Behind(Web(*told)), Look(*told).colours()
            ties = [colour[-1][::-1] for colour in colours]
            self.same(tells_apart(b, ties), True)
            self.same(tells_apart(b, [list(tie) for tie in told[1]]), True)
            for place in range(len(ties)):
                self.same(tells_apart(b, ties[:place] + ties[place + 1:]), False)

    def test_no_ties(self):
        for size in (1, 2, 40):
            self.same((tells_apart(Behind(Web(size)), ()), tells_apart(Behind(Web(size)), [])), (True, True))
        self.same(tells_apart(Behind(Web(*PATH)), ()), False)

    def test_large(self):
        b = Behind(Web.full(40))
        self.same((tells_apart(b, b.web.ties), tells_apart(b, b.web.ties[1:]), count_colours(b.wood)),
                  (True, False, 780))
        self.same(b.many, factorial(40))
        self.same(tells_apart(Behind(Web(20) & Web(20)), [(39, 5)]), True)

    def test_errors(self):
        b = Behind(Web(*PATH))
        for value in strange_wholes():
            self.told(BadPair, {"place": -1}, tells_apart, b, value)
        for value in strange_pairs(4):
            self.told(BadPair, {"place": 1}, tells_apart, b, ((0, 2), value))
        self.told(BadPair, {"place": 1}, tells_apart, b, [(0, 3), [3, 0]])
        for ties, pair in (([(3, 0), (2, 0)], (0, 2)), ([(3, 1), (3, 2)], (1, 3)), (((3, 0), (3, 1)), (0, 3))):
            self.told(NotTied, {"first": pair[0], "second": pair[1]}, tells_apart, b, ties)

    def test_arguments_stay(self):
        b, ties = Behind(Web(*HAT)), [[4, 0], [1, 0]]
        self.same(tells_apart(b, ties), True)
        p = b.at(0)
        arrows = [[2, 3], [0, 4]]
        self.same(is_pin(b, p, arrows), True)
        self.assertEqual((ties, arrows), ([[4, 0], [1, 0]], [[2, 3], [0, 4]]))


class PinsOfContrariesTest(Case):

    def test_contrary(self):
        for told in (PATH, HAT, LONE, MIXED):
            b = Behind(Web(*told))
            for p in b.by_number():
                self.same(pin(b, ~p), turned_back(pin(b, p)))
                self.same(count_pins(b, ~p), count_pins(b, p))


if __name__ == "__main__":
    unittest.main()
