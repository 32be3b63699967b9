"""How many orders are behind a web: points 48, 49, 51 and 52."""

import unittest
from math import factorial

from ordersbehind.counts import count_orders, has_orders, made_one, share_of_parts
from ordersbehind.errors import BadLot, NotPart
from ordersbehind.webs import Web
from tests.case import Case, strange_things, strange_wholes
from tests.plainly import (FIVE, HAT, LONE, MIXED, NET, PATH, Look, all_pairs, every_lot, every_web, middling_webs,
                           orders_of)

PATH40 = Web(40, [(a, a + 1) for a in range(39)])


def some():
    """Webs, with orders or without, whose choices can all be tried."""
    yield from (told for told in middling_webs() if len(told[1]) <= 10)
    yield from list(every_web(5))[::7]


def own_made_one(look, part):
    things = [thing for thing in look.things if thing not in part] + [part[0]]
    return len(things), tuple((i, j) for i, j in all_pairs(len(things)) if look.tied(things[i], things[j]))


class CountTest(Case):

    def test_against_every_choice(self):
        for told in some():
            w, many = Web(*told), len(orders_of(*told))
            self.same(count_orders(w), many)
            self.same(has_orders(w), many > 0)

    def test_large_by_knots(self):
        sides = Web(20) & Web(20)
        for w, many in ((Web.full(40), factorial(40)), (Web(40), 1), (Web(1), 1), (sides, 2), (PATH40, 2),
                        (Web(20) & Web(10) & Web(10), 6), (Web.full(20) | Web.full(20), factorial(20) ** 2),
                        (Web(13) & Web.full(27), factorial(28)), (Web(36) | Web(*PATH), 2),
                        (Web(*PATH) & Web(*PATH) & Web.full(32), 4 * factorial(34))):
            self.same(count_orders(w), many)
            self.same(has_orders(w), True)

    def test_odd_rings(self):
        seven = Web(7, [(a, (a + 1) % 7) for a in range(7)])
        for w in (Web(*FIVE), Web(*NET), seven, Web(*FIVE) | Web(35), Web.full(30) & Web(*FIVE), Web(*NET) & Web(*PATH),
                  Web(3) | (Web(*FIVE) & Web(2))):
            self.same(count_orders(w), 0)
            self.same(has_orders(w), False)

    def test_known(self):
        self.same([count_orders(Web(*told)) for told in (PATH, HAT, LONE, MIXED)], [2, 4, 4, 8])

    def test_products_with_the_contrary(self):
        for told in list(some()) + [FIVE, NET]:
            w = Web(*told)
            product = count_orders(w) * count_orders(~w)
            plain = w == Web.full(told[0]) or w == Web(told[0])
            self.assertLessEqual(product, factorial(told[0]))
            self.assertEqual(product == factorial(told[0]), plain)
            self.assertEqual(count_orders(w) == factorial(told[0]), w == Web.full(told[0]))
            self.assertEqual(count_orders(w) == 1, w == Web(told[0]))

    def test_side_by_side(self):
        webs = [Web(*told) for told in (PATH, HAT, FIVE, MIXED, (1, ()), (2, ((0, 1),)), (3, ()), (3, ((0, 2),)))]
        webs += [Web.full(3), Web(2) & Web.full(2)]
        for w in webs:
            for v in webs:
                product = count_orders(w) * count_orders(v)
                a, b = len((~w).pieces()), len((~v).pieces())
                self.same(count_orders(w | v), product)
                self.same(count_orders(w & v), product * factorial(a + b) // (factorial(a) * factorial(b)))
                self.assertEqual(has_orders(w & v), has_orders(w) and has_orders(v))


class MadeOneTest(Case):

    def test_every_part(self):
        for told in list(middling_webs())[::2]:
            w, look = Web(*told), Look(*told)
            for part in look.parts():
                made = made_one(w, part[::-1])
                self.same((made.size, made.ties), own_made_one(look, part))
                self.assertIs(made.__class__, Web)

    def test_known(self):
        w = Web(*HAT)
        self.same(made_one(w, [3, 1, 0, 2]).ties, ((0, 1),))
        self.same(made_one(w, (0,)).ties,
                  ((0, 1), (0, 3), (0, 4), (1, 2), (1, 3), (2, 3), (3, 4)))
        self.same((made_one(w, (0, 1, 2, 3, 4)).size, made_one(Web(1), [0]).size), (1, 1))
        self.same(made_one(Web(40), tuple(range(39))).ties, ())
        self.same(made_one(Web.full(40), list(range(1, 40))).ties, ((0, 1),))

    def test_shares(self):
        for told in some():
            w, look = Web(*told), Look(*told)
            many = len(orders_of(*told))
            for part in look.parts():
                inside = look.on(part)
                inner = len(orders_of(inside.size, inside.ties))
                outer = len(orders_of(*own_made_one(look, part)))
                union = look.union(part)
                over = under = 1
                if union is not None and union[0] == "full":
                    over, under = factorial(union[2]), factorial(union[1]) * factorial(union[2] - union[1] + 1)
                self.same(share_of_parts(w, list(part)), (inner, outer, over, under))
                self.assertEqual(many * under, inner * outer * over)
                self.assertEqual(many > 0, inner > 0 and outer > 0)

    def test_unions_of_children(self):
        self.same(share_of_parts(Web.full(5), (4, 1, 2)), (6, 6, 120, 36))
        self.same(share_of_parts(Web.full(5), (0, 1, 2, 3, 4)), (120, 1, 1, 1))
        self.same(share_of_parts(Web.full(5), [3]), (1, 120, 1, 1))
        self.same(share_of_parts(Web(5), (0, 2)), (1, 1, 1, 1))
        w = Web(3) & Web(2) & Web(*PATH)
        self.same(share_of_parts(w, (0, 1, 2, 3, 4)), (2, 4, 6, 4))
        self.same(share_of_parts(w, (0, 1)), (1, 12, 1, 1))
        self.same(share_of_parts(w, (5, 6, 7, 8)), (2, 6, 1, 1))
        self.same(share_of_parts(Web.full(40), tuple(range(2))), (2, factorial(39), factorial(40), 2 * factorial(39)))
        self.same(share_of_parts(Web(*FIVE) & Web.full(2), [5, 6]), (2, 0, 6, 4))
        self.same(share_of_parts(Web(*FIVE) & Web.full(2), (0, 1, 2, 3, 4)), (0, 6, 1, 1))

    def test_errors(self):
        w = Web(*PATH)
        for call in (made_one, share_of_parts):
            for value in strange_wholes() + [(), []]:
                self.told(BadLot, {"place": -1}, call, w, value)
            for value in strange_things(4):
                self.told(BadLot, {"place": 1}, call, w, [1, value])
            self.told(BadLot, {"place": 2}, call, w, [1, 0, 0])
            self.told(BadLot, {"place": 2}, call, w, (0, 1, 4))
            self.told(NotPart, {"thing": 2}, call, w, (0, 1))
            self.told(NotPart, {"thing": 0}, call, w, [2, 1])
            self.told(NotPart, {"thing": 2}, call, Web(*FIVE), [1, 0])

    def test_least_thing_of_no_part(self):
        for told in list(middling_webs())[::5]:
            look = Look(*told)
            for lot in every_lot(told[0]):
                thing = look.splitter(lot)
                if thing is not None:
                    self.told(NotPart, {"thing": thing}, made_one, Web(*told), lot)
                    self.told(NotPart, {"thing": thing}, share_of_parts, Web(*told), list(lot)[::-1])

    def test_arguments_stay(self):
        w, lot = Web(*HAT), [3, 1, 0, 2]
        made_one(w, lot)
        share_of_parts(w, lot)
        self.assertEqual(lot, [3, 1, 0, 2])
        self.assertTrue(w == Web(*HAT))


if __name__ == "__main__":
    unittest.main()
