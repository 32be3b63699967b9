"""Turns of orders at their parts: points 65 and 66."""

import unittest

from ordersbehind.behind import Behind
from ordersbehind.colourwood import count_loose
from ordersbehind.errors import BadLot, NotPart, OtherWeb
from ordersbehind.orders import Order, web_of
from ordersbehind.turns import crossing_thing, is_part_of, same_web, turn, turned_along, turns
from ordersbehind.webs import Web
from ordersbehind.wood import Wood
from tests.case import Case, strange_things, strange_wholes
from tests.plainly import HAT, LONE, MIXED, PATH, Look, every_lot, every_order, nested_webs, webs_with_orders


def own_crossing(size, arrows, lot):
    """The least thing outside the lot that is not below all, above all or beside all of its things."""
    for thing in range(size):
        if thing not in lot:
            stands = {1 if (thing, other) in arrows else -1 if (other, thing) in arrows else 0 for other in lot}
            if len(stands) > 1:
                return thing
    return None


def own_turn(arrows, lot):
    return tuple(sorted((b, a) if a in lot and b in lot else (a, b) for a, b in arrows))


def small_orders():
    """All orders of at most four things, and all orders behind some larger webs."""
    for size in range(1, 5):
        for arrows in every_order(size):
            yield size, arrows
    for told, orders in webs_with_orders():
        if told[0] > 4:
            for arrows in orders[::5]:
                yield told[0], arrows


class PartTest(Case):

    def test_every_lot(self):
        for size, arrows in small_orders():
            p = Order(size, arrows)
            for lot in every_lot(size):
                thing = own_crossing(size, arrows, lot)
                self.same(crossing_thing(p, lot[::-1]), thing)
                self.same(is_part_of(p, list(lot)), thing is None)
                if thing is None:
                    q = turn(p, lot[::-1])
                    self.same(q.arrows, own_turn(arrows, lot))
                    self.assertIs(q.__class__, Order)
                    self.assertTrue(turn(q, list(lot)) == p and same_web(p, q))
                else:
                    self.told(NotPart, {"thing": thing}, turn, p, lot)

    def test_parts_of_the_web(self):
        for told, orders in webs_with_orders():
            look = Look(*told)
            knots = look.knots()
            many = told[0]
            for lot in knots:
                k = len(look.children(lot))
                many += {"firm": 1, "free": 2 ** k - k - 1, "full": k * (k - 1) // 2}[look.kind(lot)]
            for arrows in orders:
                p = Order(told[0], arrows)
                found = [lot for lot in every_lot(told[0]) if is_part_of(p, lot)]
                self.assertEqual(len(found), many)
                self.assertLessEqual(set(found), set(look.parts()))

    def test_known(self):
        p = Order.along((2, 0, 3, 1))
        self.same([crossing_thing(p, (2, 1)), crossing_thing(p, (0, 3)), is_part_of(p, [2])], [0, None, True])
        self.same(turn(p, [3, 0]).arrows, Order.along((2, 3, 0, 1)).arrows)
        self.same(turn(p, (0, 1, 2, 3)).arrows, (~p).arrows)
        self.same(turn(p, [1]).arrows, p.arrows)
        # Thing 2 is tied to both things of the lot, but below the one and above the other.
        self.same(crossing_thing(Order.along((0, 2, 1)), [0, 1]), 2)
        self.same(crossing_thing(Order(3, [(0, 1)]), (1, 2)), 0)
        self.same(crossing_thing(Order(3, [(1, 0)]), (1, 2)), 0)
        self.same(crossing_thing(Order.along(tuple(range(40))), tuple(range(3, 30))), None)
        self.same(crossing_thing(Order.along(tuple(range(40))), (3, 39)), 4)

    def test_errors(self):
        p = Order.along((0, 1, 2, 3))
        for call in (crossing_thing, is_part_of, turn):
            for value in strange_wholes() + [(), []]:
                self.told(BadLot, {"place": -1}, call, p, value)
            for value in strange_things(4):
                self.told(BadLot, {"place": 1}, call, p, (2, value))
            self.told(BadLot, {"place": 2}, call, p, [0, 2, 0])
        self.told(NotPart, {"thing": 1}, turn, p, [2, 0])


class SameWebTest(Case):

    def test_every_two_orders(self):
        for size in (1, 2, 3):
            known = [Order(size, arrows) for arrows in every_order(size)]
            for p in known:
                for q in known:
                    self.same(same_web(p, q), web_of(p) == web_of(q))
        known = [Order(4, arrows) for arrows in every_order(4)]
        for p in known[::11]:
            for q in known:
                self.same(same_web(p, q), web_of(p) == web_of(q))

    def test_other_sizes(self):
        self.same((same_web(Order(3), Order(4)), same_web(Order(4), Order(3)), same_web(Order(1), Order(2))),
                  (False, False, False))
        self.same(same_web(Order(40), Order(40)), True)


class TurnsTest(Case):

    def look_at(self, p, q, most):
        lots = turns(p, q)
        self.assertIs(lots.__class__, tuple)
        self.assertLessEqual(len(lots), most)
        now = p
        for lot in lots:
            self.assertIs(lot.__class__, tuple)
            self.assertEqual(lot, tuple(sorted(set(lot))))
            self.same(own_crossing(now.size, now.arrows, lot), None)
            now = Order(now.size, own_turn(now.arrows, lot))
        self.assertTrue(now == q)
        self.assertTrue(turned_along(p, [list(lot) for lot in lots]) == q)

    def test_every_two_orders(self):
        for told, orders in webs_with_orders():
            most = count_loose(Wood(Web(*told)))
            known = [Order(told[0], arrows) for arrows in orders]
            for p in known[::3]:
                for q in known:
                    self.look_at(p, q, most)
                self.same(turns(p, p), ())
                self.same(turns(p, Order(told[0], p.arrows)), ())

    def test_full(self):
        for w in (Web.full(5), Web.full(4) & (Web.full(3) | Web(*PATH)), Web(*MIXED) & Web(*LONE)):
            b, most = Behind(w), count_loose(Wood(w))
            for number in range(0, b.many, b.many // 40 + 1):
                self.look_at(b.at(0), b.at(number), most)
                self.look_at(b.at(number), b.at(b.many - 1 - number // 2), most)

    def test_deep_and_large(self):
        for told in nested_webs(23, 5, 40):
            b = Behind(Web(*told))
            for one, other in ((0, b.many - 1), (b.many // 3, b.many // 2), (b.many // 5, 0)):
                self.look_at(b.at(one), b.at(other), count_loose(b.wood))
        p = Order.along(tuple(range(1, 40, 2)) + tuple(range(0, 40, 2)))
        self.look_at(p, Order.along(tuple(range(40))), 39)
        self.look_at(p, ~p, 39)

    def test_other_web(self):
        p = Order(4, [(0, 1), (2, 1), (2, 3)])
        for q, pair in ((Order(4), (0, 1)), (Order(3), (-1, -1)), (Order(4, [(0, 1), (2, 1)]), (2, 3)),
                        (Order(4, [(0, 1), (0, 2), (3, 2)]), (0, 2)),
                        (Order(4, [(1, 0), (1, 2), (3, 2), (3, 0)]), (0, 3))):
            names = {"first": pair[0], "second": pair[1]}
            self.told(OtherWeb, names, turns, p, q)
            self.told(OtherWeb, names, turns, q, p)


class AlongTest(Case):

    def test_none(self):
        p = Order(4, [(0, 1), (2, 1), (2, 3)])
        self.assertTrue(turned_along(p, ()) == p and turned_along(p, []) == p)

    def test_one_after_another(self):
        p = Order.along((0, 1, 2, 3))
        self.assertTrue(turned_along(p, [[1, 0], (2, 0)]) == Order.along((1, 2, 0, 3)))
        self.assertTrue(turned_along(p, ((0, 1, 2, 3), [3])) == ~p)

    def test_errors(self):
        p = Order.along((0, 1, 2, 3))
        for value in strange_wholes():
            self.told(BadLot, {"place": -1}, turned_along, p, value)
            self.told(BadLot, {"place": -1}, turned_along, p, [(0, 1), value])
        self.told(BadLot, {"place": -1}, turned_along, p, [(0, 1), ()])
        self.told(BadLot, {"place": 1}, turned_along, p, [(0, 1), [2, 4]])
        self.told(BadLot, {"place": 2}, turned_along, p, [(0, 1), [2, 3, 2], 5])
        self.told(BadLot, {"place": -1}, turned_along, p, (0, 1))
        self.told(NotPart, {"thing": 1}, turned_along, p, [(0, 2), (0, 1)])
        # The second lot is a part of the order at first, but not any more behind the first turn.
        self.told(NotPart, {"thing": 0}, turned_along, p, [(0, 1), [2, 1]])
        # What comes behind the first bad lot is not examined.
        self.told(NotPart, {"thing": 1}, turned_along, p, [(0, 2), 7])
        self.told(BadLot, {"place": 0}, turned_along, p, [[9], (0, 2)])

    def test_arguments_stay(self):
        p, lots = Order.along((0, 1, 2)), [[1, 0], [2, 1, 0]]
        turned_along(p, lots)
        self.assertEqual(lots, [[1, 0], [2, 1, 0]])
        self.assertTrue(p == Order.along((0, 1, 2)))
        self.same(len(turns(p, turned_along(p, lots))), len(turns(Order(3, p.arrows), turned_along(p, lots))))


class ShareTest(Case):

    def test_in_how_many_orders(self):
        """A strong part, and a union of children of a free knot, is a part of all orders."""
        for told, orders in webs_with_orders():
            look = Look(*told)
            for part in look.parts():
                many = sum(is_part_of(Order(told[0], arrows), part) for arrows in orders)
                union = look.union(part)
                if union is None or union[0] == "free":
                    self.assertEqual(many, len(orders))
        self.same(is_part_of(Behind(Web(*HAT)).at(2), (0, 1, 2, 3)), True)


if __name__ == "__main__":
    unittest.main()
