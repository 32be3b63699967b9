"""Lots as bottoms and tops: points 82 to 84."""

import random
import unittest
from math import factorial

from ordersbehind.behind import Behind
from ordersbehind.bottoms import (bottom_bar, bottom_order, bottoms_in_all, count_bottoms, count_ends, ends_bar,
                                  ends_order)
from ordersbehind.chains import is_chain
from ordersbehind.errors import BadLot
from ordersbehind.orders import Order
from ordersbehind.webs import Web
from tests.case import Case, strange_things, strange_wholes
from tests.plainly import HAT, LONE, MIXED, PATH, Look, every_lot, nested_webs, webs_with_orders


def some_lots(size, seed, many):
    """All lots, the empty one too, if there are few, otherwise some of them."""
    lots = every_lot(size, least=0)
    return lots if len(lots) <= many else random.Random(seed).sample(lots, many)


def are_bottoms(arrows, lot):
    return not any(b in lot for a, b in arrows)


def are_tops(arrows, lot):
    return not any(a in lot for a, b in arrows)


def number_and_arrows(b, orders):
    """The number and the arrows of the order with the least number."""
    return min((b.number_of(Order(b.web.size, arrows)), arrows) for arrows in orders)


class BottomsTest(Case):

    def test_every_lot(self):
        for told, orders in webs_with_orders():
            b = Behind(Web(*told))
            for lot in every_lot(told[0], least=0):
                self.look_at(b, [arrows for arrows in orders if are_bottoms(arrows, lot)], lot)

    def look_at(self, b, having, lot):
        passed = list(lot)[::-1]
        self.same(count_bottoms(b, passed), len(having))
        if having:
            self.same(bottom_order(b, passed).arrows, number_and_arrows(b, having)[1])
            self.same(bottom_bar(b, lot), None)
        else:
            self.same(bottom_order(b, lot), None)
            path = bottom_bar(b, passed)
            self.assertIs(path.__class__, tuple)
            self.same(path, tuple((x, y) for x, y in path))
            self.same(is_chain(b.web, path), True)
            self.assertTrue(path[0][1] in lot and path[-1][0] in lot)

    def test_tied_things(self):
        for told, _ in webs_with_orders():
            b = Behind(Web(*told))
            for a, c in told[1]:
                self.same((bottom_order(b, [a, c]), count_bottoms(b, (c, a))), (None, 0))
                self.assertIsNotNone(bottom_bar(b, (a, c)))

    def test_empty_lot(self):
        for told in (PATH, HAT, MIXED, (1, ()), (40, ())):
            b = Behind(Web(*told))
            for lot in ((), []):
                self.assertTrue(bottom_order(b, lot) == b.at(0))
                self.same((bottom_bar(b, lot), count_bottoms(b, lot)), (None, b.many))

    def test_numbers(self):
        b = Behind(Web(*LONE))
        self.same([count_bottoms(b, lot) for lot in ((5,), (4,), (0, 2), (0, 2, 5), (1, 3), (0, 3), (1,))],
                  [4, 2, 1, 1, 1, 0, 1])
        b = Behind(Web.full(40))
        self.same((count_bottoms(b, [39]), count_bottoms(b, [0, 39])), (factorial(39), 0))
        self.same(bottom_order(b, [39]).bottoms(), (39,))
        self.same(bottoms_in_all(b), factorial(40))

    def test_not_the_longest_bar(self):
        # Things 0 and 3 of a path are not tied, but one of them is below its neighbour if the other one is above.
        b = Behind(Web(*PATH))
        path = bottom_bar(b, [0, 3])
        self.assertIn(path[0], ((1, 0), (2, 3)))
        self.assertIn(path[-1], ((0, 1), (3, 2)))
        self.same(is_chain(b.web, path), True)

    def test_sums_over_sparse_and_complete_lots(self):
        for told, orders in webs_with_orders():
            b, look = Behind(Web(*told)), Look(*told)
            total = 0
            for lot in every_lot(told[0]):
                sparse = not any(look.tied(x, y) for x in lot for y in lot)
                if sparse and all(any(look.tied(x, y) for y in lot) for x in look.things if x not in lot):
                    total += count_bottoms(b, lot)
            self.same(total, len(orders))
            for arrows in orders:
                self.assertEqual(count_bottoms(b, Order(told[0], arrows).bottoms()) > 0, True)

    def test_bottoms_in_all(self):
        for told, orders in webs_with_orders():
            b = Behind(Web(*told))
            self.same(bottoms_in_all(b), sum(are_bottoms(arrows, (thing,))
                                             for arrows in orders for thing in range(told[0])))
            self.same(bottoms_in_all(b), sum(count_bottoms(b, [thing]) for thing in range(told[0])))
        self.same((bottoms_in_all(Behind(Web(40))), bottoms_in_all(Behind(Web(1)))), (40, 1))

    def test_errors(self):
        b = Behind(Web(*PATH))
        for call in (bottom_order, bottom_bar, count_bottoms):
            for value in strange_wholes():
                self.told(BadLot, {"place": -1}, call, b, value)
            for value in strange_things(4):
                self.told(BadLot, {"place": 1}, call, b, (2, value))
            self.told(BadLot, {"place": 2}, call, b, [2, 1, 2])


class EndsTest(Case):

    def test_every_two_lots(self):
        for seed, (told, orders) in enumerate(webs_with_orders()):
            b = Behind(Web(*told))
            most = 16 if told[0] <= 4 else 9
            for low in some_lots(told[0], seed, most):
                for high in some_lots(told[0], seed + 1000, most):
                    having = [arrows for arrows in orders if are_bottoms(arrows, low) and are_tops(arrows, high)]
                    self.look_at(b, having, low, high)

    def look_at(self, b, having, low, high):
        self.same(count_ends(b, list(low)[::-1], high), len(having))
        if having:
            self.same(ends_order(b, low, list(high)).arrows, number_and_arrows(b, having)[1])
            self.same(ends_bar(b, low, list(high)), None)
        else:
            self.same(ends_order(b, low, high), None)
            path = ends_bar(b, list(low), high)
            self.assertIs(path.__class__, tuple)
            self.same(path, tuple((x, y) for x, y in path))
            self.same(is_chain(b.web, path), True)
            (first, second), (third, last) = path[0], path[-1]
            self.assertTrue(first in low or second in high)
            self.assertTrue(last in low or third in high)

    def test_one_of_them_empty(self):
        for told, orders in webs_with_orders():
            b = Behind(Web(*told))
            for lot in every_lot(told[0], least=0)[::3]:
                self.same(count_ends(b, lot, ()), count_bottoms(b, lot))
                self.same(count_ends(b, [], lot), sum(are_tops(arrows, lot) for arrows in orders))
            self.assertTrue(ends_order(b, (), []) == b.at(0))
            self.same(count_ends(b, (), ()), b.many)

    def test_shared_things(self):
        b = Behind(Web(*LONE))
        self.same((count_ends(b, (5,), (5,)), count_ends(b, [5, 4], [5])), (4, 2))
        self.same((count_ends(b, (4,), (4,)), ends_order(b, (4,), (4,))), (0, None))
        path = ends_bar(b, (0,), (0,))
        self.same(is_chain(b.web, path), True)

    def test_sums(self):
        for told, orders in webs_with_orders():
            b = Behind(Web(*told))
            things = range(told[0])
            triples = sum(are_bottoms(arrows, (s,)) and are_tops(arrows, (t,))
                          for arrows in orders for s in things for t in things)
            self.assertEqual(sum(count_ends(b, [s], [t]) for s in things for t in things), triples)

    def test_numbers(self):
        b = Behind(Web.full(40))
        self.same([count_ends(b, (0,), (1,)), count_ends(b, (0,), ()), count_ends(b, (0,), (0,))],
                  [factorial(38), factorial(39), 0])
        p = ends_order(b, [39], [0])
        self.same((p.bottoms(), p.tops()), ((39,), (0,)))
        b = Behind(Web(2) & Web(2))
        self.same([count_ends(b, (0, 1), (2,)), count_ends(b, (1,), ()), count_ends(b, (0,), (1,))], [1, 1, 0])
        for told in nested_webs(27, 6, 40):
            b = Behind(Web(*told))
            p = b.at(b.many // 3)
            q = ends_order(b, p.bottoms(), p.tops())
            self.assertTrue(set(p.bottoms()) <= set(q.bottoms()) and set(p.tops()) <= set(q.tops()))
            self.assertLessEqual(b.number_of(q), b.number_of(p))
            self.assertGreater(count_ends(b, p.bottoms()[:1], p.tops()), 0)

    def test_errors(self):
        b = Behind(Web(*PATH))
        for call in (ends_order, ends_bar, count_ends):
            for value in strange_wholes():
                self.told(BadLot, {"place": -1}, call, b, value, [9])
                self.told(BadLot, {"place": -1}, call, b, (0,), value)
            for value in strange_things(4):
                self.told(BadLot, {"place": 1}, call, b, (2, value), None)
                self.told(BadLot, {"place": 0}, call, b, (), [value])
            self.told(BadLot, {"place": 2}, call, b, [2, 1, 2], None)
            self.told(BadLot, {"place": 2}, call, b, [2, 1], (0, 1, 1))

    def test_arguments_stay(self):
        b, low, high = Behind(Web(*HAT)), [2, 0], [3, 1]
        ends_order(b, low, high), count_ends(b, low, high), bottom_order(b, low), ends_bar(b, low, high)
        self.assertEqual((low, high), ([2, 0], [3, 1]))


if __name__ == "__main__":
    unittest.main()
