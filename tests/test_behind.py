"""All orders behind a web: points 46 to 50."""

import types
import unittest
from math import factorial

from ordersbehind.behind import Behind
from ordersbehind.classes import class_of, colour_of
from ordersbehind.errors import BadNumber, BadPair, BadWays, NoOrders, NotBehind, NotTied, TooMany
from ordersbehind.orders import Order
from ordersbehind.rings import is_odd_ring
from ordersbehind.webs import Web
from ordersbehind.wood import Wood
from tests.case import Case, strange_pairs, strange_wholes
from tests.plainly import FIVE, HAT, LONE, MIXED, NET, PATH, Look, every_web, middling_webs, nested_webs
from tests.test_rings import SEVEN, TWO


def own_webs():
    """Webs whose choices of one arrow a tie can all be tried."""
    yield from (told for told in middling_webs() if len(told[1]) <= 10)
    yield from list(every_web(5))[::23]


def own_ways(look, arrows):
    """The ways that mean the arrows, straight from their meaning."""
    ways = []
    for lot in look.strong():
        if len(lot) > 1 and look.kind(lot) == "full":
            children = look.children(lot)
            below = [sum((other[0], one[0]) in arrows for other in children) for one in children]
            ways.append(tuple(below.index(many) for many in range(len(children))))
        elif len(lot) > 1 and look.kind(lot) == "firm":
            children = look.children(lot)
            parting = [(a, b) for a, b in look.ties if a in lot and b in lot
                       and not any(a in child and b in child for child in children)]
            ways.append(0 if min(parting) in arrows else 1)
    return tuple(ways)


class MakingTest(Case):

    def test_attributes(self):
        for told in (PATH, HAT, LONE, MIXED, (1, ()), (3, ())):
            w = Web(*told)
            b = Behind(w)
            self.assertIs(b.web, w)
            self.assertIs(b.wood.__class__, Wood)
            self.assertIs(b.wood.web, w)
            self.same(b.places, tuple(knot.number for knot in b.wood.knots if knot.kind in ("full", "firm")))
        self.same(Behind(Web(*LONE)).places, (1, 2))
        self.same(Behind(Web(*MIXED)).places, (0, 1, 2))
        self.same(Behind(Web(3)).places, ())

    def test_orders_or_a_ring(self):
        for told in own_webs():
            w, look = Web(*told), Look(*told)
            orders = look.orders()
            if orders:
                self.same(Behind(w).many, len(orders))
            else:
                ring = self.told(NoOrders, {}, Behind, w).ring
                self.same(is_odd_ring(w, ring), True)
                self.same(len(ring), look.least_ring(look.ties))
                self.assertIs(ring.__class__, tuple)

    def test_shortest_ring(self):
        for told, many in ((FIVE, 5), (SEVEN, 7), (TWO, 5), (NET, 9)):
            error = self.told(NoOrders, {}, Behind, Web(*told))
            self.same(len(error.ring), many)
            self.same(is_odd_ring(Web(*told), error.ring), True)

    def test_many(self):
        self.assertIsInstance(vars(Behind)["many"], property)
        self.same(Behind(Web.full(40)).many, factorial(40))
        self.same(Behind(Web(40)).many, 1)
        self.same(Behind(Web(1)).many, 1)
        self.same(Behind(Web(40, [(a, a + 1) for a in range(39)])).many, 2)
        self.same(Behind(Web(40, [(2 * a, 2 * a + 1) for a in range(20)])).many, 2 ** 20)
        self.same([Behind(Web(*told)).many for told in (PATH, HAT, LONE, MIXED)], [2, 4, 4, 8])

    def test_numbers_of_orders(self):
        for told in middling_webs():
            if len(told[1]) <= 10 and told[0] * (told[0] - 1) // 2 - len(told[1]) <= 10:
                many = self.many_of(Web(*told))
                product = many * self.many_of(~Web(*told))
                plain = len(told[1]) in (0, told[0] * (told[0] - 1) // 2)
                self.assertEqual(many, len(Look(*told).orders()))
                self.assertLessEqual(many, factorial(told[0]))
                self.assertEqual(many == factorial(told[0]), Web(*told) == Web.full(told[0]))
                self.assertLessEqual(product, factorial(told[0]))
                self.assertEqual(product == factorial(told[0]), plain)
                self.assertEqual(many == 1, not told[1])

    def many_of(self, w):
        try:
            return Behind(w).many
        except NoOrders:
            return 0


class WaysTest(Case):

    def test_against_every_choice(self):
        for told in own_webs():
            look = Look(*told)
            orders = look.orders()
            if orders:
                self.look_at(Behind(Web(*told)), look, orders)

    def look_at(self, b, look, orders):
        ways = sorted((own_ways(look, arrows), arrows) for arrows in orders)
        self.assertEqual(b.many, len(ways))
        for number, (way, arrows) in enumerate(ways):
            p = b.order_of(way)
            self.same((p.size, p.arrows), (look.size, arrows))
            self.assertIs(p.__class__, Order)
            self.same(b.order_of([list(entry) if isinstance(entry, tuple) else entry for entry in way]).arrows, arrows)
            self.same(b.ways_of(Order(look.size, arrows)), way)
            self.same(b.number_of(p), number)
            self.same(b.at(number).arrows, arrows)
            self.same(p in b, True)
        self.same([p.arrows for p in b.by_number()], [arrows for _, arrows in ways])

    def test_meaning_of_firm_entries(self):
        b = Behind(Web(*PATH))
        self.same(b.order_of((0,)).arrows, class_of(Web(*PATH), (0, 1)))
        self.same(b.order_of([1]).arrows, class_of(Web(*PATH), (1, 0)))
        w = Web(5, [(1, 2), (2, 3), (3, 0), (1, 4), (2, 4), (3, 4), (0, 4)])
        self.same(Behind(w).order_of(((0, 1), 0)).has(0, 3), True)
        self.same(Behind(w).order_of(((0, 1), 1)).has(0, 3), False)

    def test_meaning_of_full_entries(self):
        b = Behind(~Web(5, [(0, 4), (1, 3)]))
        p = b.order_of([(1, 2, 0)])
        self.same(p.arrows, tuple(sorted([(x, y) for x in (1, 3) for y in (0, 2, 4)] + [(2, 0), (2, 4)])))
        self.same(Behind(Web.full(4)).order_of(([2, 0, 3, 1],)).arrows, Order.along([2, 0, 3, 1]).arrows)

    def test_no_knot_chooses(self):
        for size in (1, 2, 40):
            b = Behind(Web(size))
            self.same((b.order_of(()).arrows, b.order_of([]).arrows), ((), ()))
            self.same((b.ways_of(Order(size)), b.number_of(Order(size)), b.at(0).arrows), ((), 0, ()))
            self.same([p.arrows for p in b.by_number()], [()])

    def test_large_numbers(self):
        b = Behind(Web.full(40))
        for row in (tuple(range(40)), tuple(range(40))[::-1], tuple(range(20, 40)) + tuple(range(20))):
            p = Order.along(row)
            self.same(b.ways_of(p), (row,))
            self.assertTrue(b.at(b.number_of(p)) == p)
        self.same(b.number_of(Order.along(list(range(40))[::-1])), factorial(40) - 1)
        self.same(b.at(1).has(39, 38), True)

    def test_deep_webs(self):
        for told in nested_webs(14, 8, 40):
            b = Behind(Web(*told))
            for number in (0, 1 % b.many, b.many // 3, b.many - 1):
                p = b.at(number)
                self.same((p in b, b.number_of(p)), (True, number))
                self.assertTrue(b.order_of(b.ways_of(p)) == p)

    def test_contrary(self):
        for told in own_webs():
            if Look(*told).orders():
                b = Behind(Web(*told))
                for p in b.by_number():
                    turned = tuple(entry[::-1] if isinstance(entry, tuple) else 1 - entry for entry in b.ways_of(p))
                    self.same(b.ways_of(~p), turned)

    def test_argument_stays(self):
        b, ways = Behind(Web(*HAT)), [[1, 0], 1]
        p = b.order_of(ways)
        self.assertEqual(ways, [[1, 0], 1])
        ways[0][0] = 0
        self.same(b.ways_of(p), ((1, 0), 1))


class BadWaysTest(Case):

    def test_whole(self):
        b = Behind(Web(*HAT))
        for value in strange_wholes() + [(), [], ((0, 1),), [(0, 1), 0, 0], ((0, 1), 0, 1), "01", {(0, 1): 0}]:
            self.told(BadWays, {"place": -1}, b.order_of, value)
        for value in strange_wholes() + [(0,), [0], ((),)]:
            self.told(BadWays, {"place": -1}, Behind(Web(4)).order_of, value)

    def test_full_entries(self):
        b = Behind(Web.full(3) & Web(*PATH))
        self.same(b.places, (0, 1))
        for value in strange_wholes() + [(), (0, 1, 2), (0, 1, 2, 3, 0), (0, 1, 2, 2), (0, 1, 2, 4), (1, 2, 3, 4),
                                         (0, -1, 2, 3), (False, True, 2, 3), (0, 1.0, 2, 3), "0123", 0, 1]:
            self.told(BadWays, {"place": 0}, b.order_of, (value, 0))
            self.told(BadWays, {"place": 0}, b.order_of, [value, 2])
        self.same(b.order_of([[3, 1, 2, 0], 1]).has(6, 5), True)

    def test_firm_entries(self):
        b = Behind(Web.full(3) & Web(*PATH))
        for value in (2, -1, True, False, 0.0, 1.0, "0", None, (0,), [0], (), (0, 1, 2, 3), 10 ** 30):
            self.told(BadWays, {"place": 1}, b.order_of, ((0, 1, 2, 3), value))

    def test_later_entries(self):
        b = Behind(Web(*MIXED))
        good = [(1, 0), 1, (0, 1)]
        self.same(b.ways_of(b.order_of(good)), tuple(good))
        self.told(BadWays, {"place": 2}, b.order_of, [(1, 0), 1, (0, 0)])
        self.told(BadWays, {"place": 1}, b.order_of, [(1, 0), (0, 1), 1])
        self.told(BadWays, {"place": 0}, b.order_of, (0, 1, 2))


class ErrorsTest(Case):

    def test_at(self):
        for told, many in ((PATH, 2), (HAT, 4), ((1, ()), 1)):
            b = Behind(Web(*told))
            for value in (-1, many, many + 1, True, False, 0.0, "0", None, (0,), 10 ** 50):
                self.told(BadNumber, {"name": "number"}, b.at, value)
        self.told(BadNumber, {"name": "number"}, Behind(Web.full(40)).at, factorial(40))

    def test_not_behind(self):
        b = Behind(Web(*PATH))
        for order, pair in ((Order(4), (0, 1)), (Order(3), (-1, -1)), (Order(5), (-1, -1)),
                            (Order(4, [(0, 1), (2, 1)]), (2, 3)), (Order(4, [(0, 1), (0, 2), (3, 2)]), (0, 2)),
                            (Order(4, [(1, 0), (1, 2), (3, 2), (3, 0)]), (0, 3))):
            names = {"first": pair[0], "second": pair[1]}
            self.told(NotBehind, names, b.ways_of, order)
            self.told(NotBehind, names, b.number_of, order)
            self.told(NotBehind, names, b.colour_ways, order, (0, 1))
            self.same(order in b, False)

    def test_colour_ways(self):
        for told in own_webs():
            w = Web(*told)
            if told[1] and Look(*told).orders():
                b = Behind(w)
                for p in list(b.by_number())[:6]:
                    for tie in told[1]:
                        for passed in (tie, list(tie)[::-1]):
                            self.same(b.colour_ways(p, passed), p.has(*colour_of(w, tie)[0]))

    def test_colour_ways_errors(self):
        b = Behind(Web(*PATH))
        p, other = b.at(0), Order(4)
        for value in strange_pairs(4):
            self.told(BadPair, {"place": 0}, b.colour_ways, p, value)
            self.told(BadPair, {"place": 0}, b.colour_ways, other, value)
        self.told(NotBehind, {"first": 0, "second": 1}, b.colour_ways, other, (3, 0))
        self.told(NotTied, {"first": 3, "second": 0}, b.colour_ways, p, (3, 0))
        self.told(NotTied, {"first": 0, "second": 2}, b.colour_ways, p, [0, 2])


class ByNumberTest(Case):

    def test_generator(self):
        found = Behind(Web(*HAT)).by_number()
        self.assertIsInstance(found, types.GeneratorType)
        self.same(next(found).arrows, Behind(Web(*HAT)).at(0).arrows)
        self.same(len(list(found)), 3)

    def test_same_again(self):
        b = Behind(Web(*MIXED))
        self.assertEqual(list(b.by_number()), list(b.by_number()))

    def test_bound(self):
        # 6 * 6 * 2 ** 7 orders, the most below 5,000.
        w = Web.full(3) | Web.full(3)
        for _ in range(7):
            w = w | Web.full(2)
        b = Behind(w)
        self.same(b.many, 4608)
        self.same(len({p.arrows for p in b.by_number()}), 4608)
        for w in (Web.full(7), Web.full(40), Web(26, [(2 * a, 2 * a + 1) for a in range(13)])):
            found = Behind(w).by_number()
            self.told(TooMany, {"name": "orders"}, next, found)

    def test_no_bound_elsewhere(self):
        b = Behind(Web.full(7))
        self.same((b.many, b.number_of(b.at(5039))), (5040, 5039))


class MembersTest(Case):

    def test_in(self):
        b = Behind(Web(*PATH))
        for value in (None, 0, (), ((0, 1), (2, 1), (2, 3)), Web(*PATH), Web(4), b, "order", [Order(4)]):
            self.same(value in b, False)
        self.same(Order(4, [(0, 1), (2, 1), (2, 3)]) in b, True)
        self.same(Order(4, [(0, 1), (2, 1), (3, 2), (3, 1)]) in b, False)

    def test_equal(self):
        b = Behind(Web(*PATH))
        self.same(b == Behind(Web(4, [(3, 2), [1, 2], (1, 0)])), True)
        self.same(b != Behind(Web(*PATH)), False)
        self.same(b == Behind(Web(4, [(0, 1), (1, 2)])), False)
        self.same(b == Behind(Web(5, PATH[1])), False)
        for value in (None, 0, Web(*PATH), b.wood, PATH, "behind", b.at(0)):
            self.same(b == value, False)
            self.same(b != value, True)


class HalfTest(Case):

    def test_half_have_an_arrow(self):
        for told in own_webs():
            orders = Look(*told).orders()
            for arrow in Look(*told).arrows() if orders else ():
                self.assertEqual(2 * sum(arrow in arrows for arrows in orders), Behind(Web(*told)).many)


if __name__ == "__main__":
    unittest.main()
