"""Orders between others, middles, and shares as parts: points 66, 69 and 70."""

import unittest
from math import factorial

from ordersbehind.behind import Behind
from ordersbehind.colourwood import count_colours, count_loose
from ordersbehind.counts import made_one
from ordersbehind.errors import BadLot, NoMiddle, NotBehind, NotPart, TooMany
from ordersbehind.middles import count_between, is_between, middle, share_as_part
from ordersbehind.orders import Order
from ordersbehind.webs import Web
from tests.case import Case, strange_things, strange_wholes
from tests.plainly import HAT, MIXED, PATH, Look, every_lot, gap_of, nested_webs, orders_of, webs_with_orders
from tests.test_flips import own_differing
from tests.test_turns import own_crossing


def between(one, order, other):
    return set(one) & set(other) <= set(order)


def majority(one, two, three):
    return tuple(sorted(arrow for arrow in set(one + two + three)
                        if (arrow in one) + (arrow in two) + (arrow in three) >= 2))


class BetweenTest(Case):

    def test_every_three_orders(self):
        for told, orders in webs_with_orders():
            b, colours = Behind(Web(*told)), Look(*told).colours()
            known = {arrows: Order(told[0], arrows) for arrows in orders}
            for one in orders[::5]:
                for other in orders[::2]:
                    found = [arrows for arrows in orders if between(one, arrows, other)]
                    self.same(count_between(b, known[one], known[other]), len(found))
                    far = len(own_differing(colours, one, other))
                    for arrows in orders:
                        sums = len(own_differing(colours, one, arrows)) + len(own_differing(colours, arrows, other))
                        self.same(is_between(b, known[one], known[arrows], known[other]), arrows in found)
                        self.assertEqual(arrows in found, sums == far)

    def test_known(self):
        b = Behind(Web.full(4))
        p, q = Order.along((0, 1, 2, 3)), Order.along((1, 0, 3, 2))
        self.same([count_between(b, p, p), count_between(b, p, q), count_between(b, p, ~p)], [1, 4, 24])
        self.same(is_between(b, p, Order.along((1, 0, 2, 3)), q), True)
        self.same(is_between(b, p, Order.along((0, 2, 1, 3)), q), False)
        self.same((is_between(b, p, p, q), is_between(b, p, q, q)), (True, True))
        self.same(count_between(Behind(Web(40)), Order(40), Order(40)), 1)

    def test_large(self):
        b = Behind(Web.full(12) | Web.full(12) | Web(*PATH) | Web.full(12))
        p = b.at(0)
        self.same(count_between(b, p, ~p), 2 * factorial(12) ** 3)
        self.same(count_between(b, p, p), 1)
        self.same(is_between(b, p, b.at(77), ~p), True)
        for told in nested_webs(25, 4, 30):
            b = Behind(Web(*told))
            p, q = b.at(b.many // 3), b.at(b.many - 1)
            self.same(is_between(b, p, q, ~p), True)
            self.same(count_between(b, p, ~p), b.many)

    def test_errors(self):
        b = Behind(Web(*PATH))
        p, none, few = b.at(0), Order(4), Order(4, [(0, 1), (2, 1)])
        self.told(NotBehind, {"first": 0, "second": 1}, is_between, b, none, few, few)
        self.told(NotBehind, {"first": 2, "second": 3}, is_between, b, few, none, none)
        self.told(NotBehind, {"first": 2, "second": 3}, is_between, b, p, few, none)
        self.told(NotBehind, {"first": -1, "second": -1}, is_between, b, p, p, Order(1))
        self.told(NotBehind, {"first": 0, "second": 1}, count_between, b, none, few)
        self.told(NotBehind, {"first": 2, "second": 3}, count_between, b, few, none)
        self.told(NotBehind, {"first": 2, "second": 3}, count_between, b, p, few)

    def test_bound(self):
        b = Behind(Web.full(12))
        self.same(count_between(b, b.at(0), b.at(0)), 1)
        self.same(count_between(b, b.at(0), ~b.at(0)), factorial(12))
        for w in (Web.full(13), Web.full(40), Web(2) | Web.full(13)):
            b = Behind(w)
            self.told(TooMany, {"name": "children"}, count_between, b, b.at(0), b.at(0))
            self.told(NotBehind, {"first": -1, "second": -1}, count_between, b, b.at(0), Order(1))
        # Only full knots have a bound.
        b = Behind(Web(40, [(a, a + 1) for a in range(39)]))
        self.same((count_between(b, b.at(0), b.at(1)), count_between(b, b.at(0), b.at(0))), (2, 1))
        b = Behind(Web(13) & Web(13))
        self.same(count_between(b, b.at(0), b.at(1)), 2)


class MiddleTest(Case):

    def test_every_three_orders(self):
        for told, orders in webs_with_orders():
            if len(orders) <= 24:
                b = Behind(Web(*told))
                always = True
                for one in orders[::2]:
                    for two in orders[::3]:
                        for three in orders:
                            always = self.look_at(b, orders, one, two, three) and always
                plain = count_colours(b.wood) == count_loose(b.wood)
                if plain:
                    self.assertTrue(always)

    def look_at(self, b, orders, one, two, three):
        args = [Order(b.web.size, arrows) for arrows in (one, two, three)]
        outcome = majority(one, two, three)
        found = [arrows for arrows in orders
                 if between(one, arrows, two) and between(one, arrows, three) and between(two, arrows, three)]
        if gap_of(outcome) is None:
            self.assertEqual(found, [outcome])
            self.same(middle(b, *args).arrows, outcome)
            return True
        self.assertEqual(found, [])
        things = self.told(NoMiddle, {}, middle, b, *args).things
        self.assertIs(things.__class__, tuple)
        x, y, z = things
        self.assertLessEqual({(x, y), (y, z), (z, x)}, set(outcome))
        return False

    def test_three_rows(self):
        b = Behind(Web.full(3))
        p, q, r = Order.along((0, 1, 2)), Order.along((1, 2, 0)), Order.along((2, 0, 1))
        things = self.told(NoMiddle, {}, middle, b, p, q, r).things
        self.assertIn(things, [(0, 1, 2), (1, 2, 0), (2, 0, 1)])
        self.assertTrue(middle(b, p, q, Order.along((1, 0, 2))) == Order.along((1, 0, 2)))
        self.assertTrue(middle(b, p, p, r) == p)

    def test_any_three_have_one(self):
        """They have one exactly if no full knot has more than two children."""
        for w, always in ((Web(*HAT), True), (Web(*MIXED), True), (Web.full(3), False), (Web(2) & Web(*PATH), True),
                          (Web(*PATH) & Web.full(2), False)):
            b = Behind(w)
            orders = list(b.by_number())
            failed = 0
            for p in orders:
                for q in orders:
                    for r in orders:
                        try:
                            middle(b, p, q, r)
                        except NoMiddle:
                            failed += 1
            self.assertEqual(failed == 0, always)
            self.assertEqual(count_colours(b.wood) == count_loose(b.wood), always)

    def test_large(self):
        b = Behind(Web.full(40))
        p = b.at(0)
        q = Order.along(tuple(range(20, 40)) + tuple(range(20)))
        self.assertTrue(middle(b, p, ~p, q) == q)
        self.told(NoMiddle, {}, middle, b, p, Order.along(tuple(range(1, 40)) + (0,)),
                  Order.along((39,) + tuple(range(39))))

    def test_errors(self):
        b = Behind(Web(*PATH))
        p, none, few = b.at(0), Order(4), Order(4, [(0, 1), (2, 1)])
        self.told(NotBehind, {"first": 0, "second": 1}, middle, b, none, few, few)
        self.told(NotBehind, {"first": 2, "second": 3}, middle, b, p, few, none)
        self.told(NotBehind, {"first": 0, "second": 1}, middle, b, p, p, none)
        self.told(NotBehind, {"first": -1, "second": -1}, middle, b, Order(5), none, p)


class ShareTest(Case):

    def test_every_part(self):
        for told, orders in webs_with_orders():
            b, look = Behind(Web(*told)), Look(*told)
            for part in look.parts():
                union, want = look.union(part), (1, 1)
                if union is not None and union[0] == "full":
                    want = factorial(union[1]) * factorial(union[2] - union[1] + 1), factorial(union[2])
                self.same(share_as_part(b, part[::-1]), want)
                many = sum(own_crossing(told[0], arrows, part) is None for arrows in orders)
                self.assertEqual(many * want[1], len(orders) * want[0])
                one = made_one(b.web, part)
                inside = look.on(part)
                self.assertEqual(many, len(orders_of(inside.size, inside.ties)) * len(orders_of(one.size, one.ties)))

    def test_known(self):
        b = Behind(Web.full(5))
        self.same([share_as_part(b, lot) for lot in ((0, 3), [2, 0, 1], (4, 1, 2, 3), (0, 1, 2, 3, 4), [2])],
                  [(48, 120), (36, 120), (48, 120), (1, 1), (1, 1)])
        self.same(share_as_part(Behind(Web(5)), (0, 2)), (1, 1))
        self.same(share_as_part(Behind(Web.full(40)), (0, 39)), (2 * factorial(39), factorial(40)))

    def test_errors(self):
        b = Behind(Web(*PATH))
        for value in strange_wholes() + [(), []]:
            self.told(BadLot, {"place": -1}, share_as_part, b, value)
        for value in strange_things(4):
            self.told(BadLot, {"place": 1}, share_as_part, b, (2, value))
        self.told(BadLot, {"place": 2}, share_as_part, b, [0, 1, 0])
        self.told(NotPart, {"thing": 2}, share_as_part, b, [1, 0])
        self.told(NotPart, {"thing": 0}, share_as_part, b, (2, 1))
        for lot in every_lot(4):
            thing = Look(*PATH).splitter(lot)
            if thing is not None:
                self.told(NotPart, {"thing": thing}, share_as_part, b, lot)


if __name__ == "__main__":
    unittest.main()
