"""One thing more: points 151 to 156 and 161."""

import random
import unittest
from itertools import product

from ordersbehind.behind import Behind
from ordersbehind.chains import chain, is_chain
from ordersbehind.classes import colours
from ordersbehind.colourwood import count_colours, count_loose
from ordersbehind.counts import count_orders, has_orders
from ordersbehind.errors import BadLot, BadNumber, NoOrders, NotBehind, NotClosed
from ordersbehind.growing import (count_going, goes_on, grown, is_stuck_pair, joined_classes, order_by_sides, sides,
                                  stuck, with_thing)
from ordersbehind.orders import Order, is_behind
from ordersbehind.rings import is_odd_ring
from ordersbehind.webs import Web
from ordersbehind.wood import Wood
from tests.case import Case, strange_things, strange_wholes
from tests.plainly import (FIVE, HAT, MIXED, NET, PATH, Look, all_pairs, every_lot, every_order, every_web,
                           middling_webs, nested_webs, orders_of, some_webs)

STUCK = (5, ((0, 1), (1, 4), (2, 3), (2, 4)))


def old_ties(ties, size):
    return tuple(tie for tie in ties if size - 1 not in tie)


def grown_webs():
    """Webs of two things or more whose old web has orders behind it, told by size and ties."""
    told = [web for web in middling_webs() if 2 <= web[0] <= 7 and len(web[1]) <= 11] + [STUCK]
    told += list(every_web(5))[::17] + list(some_webs(131, 30, (5, 6)))
    return [web for web in dict.fromkeys(told) if len(web[1]) <= 11 and orders_of(web[0] - 1, old_ties(web[1], web[0]))]


def own_going(size, ties, arrows):
    """The arrows of all orders behind the web that have all of the arrows, ascending."""
    return [found for found in orders_of(size, ties) if set(arrows) <= set(found)]


def own_sides(size, arrows, near):
    """All partings of the lot, from trying every two lots."""
    found = []
    for taken in product((True, False), repeat=len(near)):
        low = tuple(thing for thing, below in zip(near, taken) if below)
        high = tuple(thing for thing, below in zip(near, taken) if not below)
        if (all(a in low for a, b in arrows if b in low) and all(b in high for a, b in arrows if a in high)
                and all((a, b) in arrows for a in low for b in high)):
            found.append((low, high))
    return sorted(found)


def lone_child(size, ties):
    """How many children the full knot has of which the new thing is one by itself, 0 if there is none."""
    look = Look(size, ties)
    for lot in look.knots():
        if (size - 1,) in look.children(lot) and look.kind(lot) == "full":
            return len(look.children(lot))
    return 0


class WithThingTest(Case):

    def test_every_lot(self):
        for told in (PATH, FIVE, (1, ()), (3, ((0, 2),))):
            w = Web(*told)
            for lot in every_lot(told[0], least=0):
                v = with_thing(w, list(lot)[::-1])
                self.same((v.size, v.near(v.size - 1)), (w.size + 1, lot))
                self.assertTrue(v.without(v.size - 1) == w)

    def test_errors(self):
        w = Web(*PATH)
        for value in strange_wholes():
            self.told(BadLot, {"place": -1}, with_thing, w, value)
        for value in strange_things(4):
            self.told(BadLot, {"place": 1}, with_thing, w, (2, value))
        self.told(BadLot, {"place": 2}, with_thing, w, [0, 1, 0])
        self.told(BadNumber, {"name": "size"}, with_thing, Web(40), ())
        self.told(BadNumber, {"name": "size"}, with_thing, Web(40), [39])
        self.told(BadLot, {"place": 0}, with_thing, Web(40), [40])
        self.same(with_thing(Web(39), (38, 0)).ties, ((0, 39), (38, 39)))


class GoingTest(Case):

    def test_against_every_order(self):
        met = {}
        for told in grown_webs():
            w, size = Web(*told), told[0]
            every = orders_of(*told)
            total = 0
            for arrows in orders_of(size - 1, old_ties(told[1], size)):
                p = Order(size - 1, arrows)
                if not every:
                    self.look_at_refusal(p, w)
                    continue
                want = own_going(*told, arrows)
                found = goes_on(p, w)
                self.same(found.__class__, tuple)
                self.same([(q.size, q.arrows) for q in found], [(size, one) for one in want])
                self.same(count_going(p, w), len(want))
                self.look_at_stuck(p, w, want)
                self.assertIn(len(want), (0, lone_child(*told) or 1))
                met[len(want)] = True
                total += len(want)
            if every:
                self.assertEqual(total, len(every))
        self.assertTrue({0, 1, 2, 3} <= set(met))

    def look_at_refusal(self, p, w):
        for call in (goes_on, count_going, stuck):
            error = self.told(NoOrders, {}, call, p, w)
            self.same(is_odd_ring(w, error.ring), True)
            self.same(len(error.ring), Look(w.size, w.ties).least_ring(w.ties))
            self.assertIn(w.size - 1, error.ring)

    def look_at_stuck(self, p, w, want):
        pair = stuck(p, w)
        if want:
            self.assertIsNone(pair)
            return
        self.same((pair.__class__, len(pair)), (tuple, 2))
        one, arrows = pair
        self.same((one in p, arrows[0], is_chain(w, arrows), arrows[-1][::-1] in p), (True, one, True, True))
        self.same(is_stuck_pair(p, w, one, arrows), True)
        self.same(is_stuck_pair(p, w, list(one), [list(arrow) for arrow in arrows]), True)

    def test_number_of_orders(self):
        """Points 153 and 156."""
        for told in grown_webs():
            w, size = Web(*told), told[0]
            if has_orders(w):
                old = w.without(size - 1)
                many, before = Wood(w), Wood(old)
                children = lone_child(*told)
                if children:
                    self.same(count_orders(w), children * count_orders(old))
                    self.same(count_colours(many), count_colours(before) + children - 1)
                    self.same(count_loose(many), count_loose(before) + 1)
                else:
                    self.assertLessEqual(count_orders(w), count_orders(old))
                    self.assertLessEqual(count_colours(many), count_colours(before))
                    self.assertLessEqual(count_loose(many), count_loose(before))
                for arrows in orders_of(*told)[::3]:
                    self.same(is_behind(Order(size, arrows).without(size - 1), old), True)

    def test_large(self):
        p = Order.along(tuple(range(39)))
        self.same((count_going(p, Web.full(40)), len(goes_on(p, Web.full(40)))), (40, 40))
        w = with_thing(Web(39, [(a, a + 1) for a in range(38)]), [38])
        b = Behind(w.without(39))
        self.same([count_going(b.at(number), w) for number in (0, 1)], [1, 1])
        # Two paths of 20 things joined by a new thing go on only if they stand alike.
        path = Web(19, [(a, a + 1) for a in range(18)])
        w = with_thing(path | path, (18, 19))
        b = Behind(path | path)
        self.same([count_going(b.at(number), w) for number in range(4)].count(1), 2)
        for number in range(4):
            self.look_at_stuck(b.at(number), w, goes_on(b.at(number), w))

    def test_not_behind(self):
        w = Web(*PATH)
        for call in (goes_on, count_going, stuck, lambda p, v: is_stuck_pair(p, v, None, None)):
            for p in (Order(4), Order(2), Order(5), Order(40)):
                self.told(NotBehind, {"first": -1, "second": -1}, call, p, w)
            self.told(NotBehind, {"first": -1, "second": -1}, call, Order(1), Web(1))
            self.told(NotBehind, {"first": 1, "second": 2}, call, Order(3, [(0, 1)]), w)
            self.told(NotBehind, {"first": 0, "second": 2}, call, Order.along((0, 1, 2)), w)
            # The old web of FIVE has orders; NotBehind comes ahead of NoOrders.
            self.told(NotBehind, {"first": 0, "second": 1}, call, Order(4), Web(*FIVE))
            self.told(NotBehind, {"first": -1, "second": -1}, call, Order(5), Web(*FIVE))
        for told in grown_webs()[::5]:
            look = Look(told[0] - 1, old_ties(told[1], told[0]))
            for arrows in list(every_order(3))[::2]:
                if told[0] == 4:
                    unlike = [pair for pair in all_pairs(3)
                              if look.tied(*pair) != (pair in arrows or pair[::-1] in arrows)]
                    if unlike:
                        self.told(NotBehind, {"first": unlike[0][0], "second": unlike[0][1]}, goes_on,
                                  Order(3, arrows), Web(*told))


class StuckPairTest(Case):

    def test_other_values(self):
        w, p = Web(*STUCK), Order(4, [(0, 1), (2, 3)])
        one, arrows = (0, 1), ((0, 1), (4, 1), (4, 2), (3, 2))
        self.same(is_chain(w, arrows), True)
        self.same(is_stuck_pair(p, w, one, arrows), True)
        self.same(is_stuck_pair(p, w, [0, 1], [[0, 1], (0, 1), (4, 1), [4, 2], (3, 2)]), True)
        for value in strange_wholes() + [(), [], (0,), (1, 0), (2, 3), (0, 1, 2), (4, 1), (False, 1), "01", (0.0, 1)]:
            self.same(is_stuck_pair(p, w, value, arrows), False)
        for value in strange_wholes() + [(), [], arrows[:3], arrows[1:], [(0, 1)], arrows[::-1], one, (None,),
                                         ((0, 1), (3, 2)), ((0, 1), (1, 4), (2, 4), (2, 3)),
                                         ((0, 1), (4, 1), (4, 2), (3, 2), (4, 2)), ((0, 1), (4, 1), (4, 2), (3, 2), 5)]:
            self.same(is_stuck_pair(p, w, one, value), False)
        # The order that stands the other way round at one of the pieces is not stuck.
        q = Order(4, [(0, 1), (3, 2)])
        self.same((is_stuck_pair(q, w, one, arrows), count_going(q, w)), (False, 1))

    def test_every_chain(self):
        """Every shortest chain of the web that begins with an arrow of the order."""
        for told in grown_webs()[::4]:
            w, size = Web(*told), told[0]
            look = Look(*told)
            for arrows in orders_of(size - 1, old_ties(told[1], size))[:3]:
                p = Order(size - 1, arrows)
                for one in look.arrows():
                    for last in look.class_of(one):
                        want = one in arrows and last[::-1] in arrows
                        self.same(is_stuck_pair(p, w, one, chain(w, one, last)), want)

    def test_without_orders(self):
        w = Web(*FIVE)
        for p in Behind(w.without(4)).by_number():
            found = [is_stuck_pair(p, w, one, chain(w, one, one[::-1])) for one in Look(*FIVE).arrows()]
            self.same(found, [one in p for one in Look(*FIVE).arrows()])


class SidesTest(Case):

    def test_every_two_lots(self):
        for size in range(1, 5):
            for arrows in list(every_order(size))[::1 if size < 4 else 3]:
                p = Order(size, arrows)
                for near in every_lot(size, least=0):
                    want = own_sides(size, arrows, near)
                    self.same(sides(p, list(near)[::-1]), tuple(want))
                    for low in every_lot(size, least=0):
                        for high in every_lot(size, least=0):
                            if not set(low) & set(high) and tuple(sorted(low + high)) == near:
                                self.look_at(p, low, high, (low, high) in want)

    def look_at(self, p, low, high, good):
        if good:
            q = order_by_sides(p, list(low)[::-1], high)
            want = p.arrows + tuple((a, p.size) for a in low) + tuple((p.size, b) for b in high)
            self.same((q.size, q.arrows), (p.size + 1, tuple(sorted(want))))
        else:
            known = set(p.arrows) | {(a, p.size) for a in low} | {(p.size, b) for b in high}
            a, b, c = min((a, b, d) for a, b in known for c, d in known if b == c and (a, d) not in known)
            self.told(NotClosed, {"first": a, "second": b, "third": c}, order_by_sides, p, low, list(high))

    def test_larger(self):
        chance = random.Random(132)
        for told in (HAT, MIXED, PATH):
            for arrows in orders_of(*told)[::3]:
                for near in every_lot(told[0], least=0)[::3]:
                    mixed = list(near)
                    chance.shuffle(mixed)
                    self.same(sides(Order(told[0], arrows), mixed), tuple(own_sides(told[0], arrows, near)))

    def test_known(self):
        self.same(sides(Order(2), ()), (((), ()),))
        self.same(sides(Order(2), (1, 0)), (((), (0, 1)), ((0, 1), ())))
        p = Order.along(tuple(range(39, -1, -1)))
        self.same(len(sides(p, tuple(range(40)))), 41)
        self.same(sides(p, (3, 4)), ())
        self.same(len(sides(Order(40), tuple(range(40)))), 2)

    def test_errors(self):
        p = Order(3, [(0, 1)])
        for call in (lambda lot: sides(p, lot), lambda lot: order_by_sides(p, lot, None),
                     lambda lot: order_by_sides(p, (2,), lot)):
            for value in strange_wholes():
                self.told(BadLot, {"place": -1}, call, value)
            for value in strange_things(3):
                self.told(BadLot, {"place": 1}, call, (2, value))
            self.told(BadLot, {"place": 2}, call, [0, 1, 0])
        self.told(BadLot, {"place": 1}, order_by_sides, p, (2, 1), [0, 1, 2])
        self.told(BadLot, {"place": 0}, order_by_sides, p, (2, 1), [2, 1])
        # A place in the lot as passed, and examined when the whole lot is good.
        self.told(BadLot, {"place": 2}, order_by_sides, p, (2, 1), [2, 1, 2])
        big = Order(40)
        self.told(BadNumber, {"name": "size"}, order_by_sides, big, (), ())
        self.told(BadNumber, {"name": "size"}, order_by_sides, big, (0,), (1,))
        self.told(BadLot, {"place": 1}, order_by_sides, big, (0,), (1, 0))
        self.same(order_by_sides(Order(39), (0,), ()).arrows, ((0, 39),))

    def test_arguments_stay(self):
        near, low, high = [2, 1], [0], [1]
        sides(Order(3), near), order_by_sides(Order(2, [(0, 1)]), low, high), with_thing(Web(3), near)
        self.assertEqual((near, low, high), ([2, 1], [0], [1]))


class JoinedTest(Case):

    def test_against_both_webs(self):
        for told in list(middling_webs()) + list(nested_webs(133, 20, 10)):
            if told[0] >= 2:
                look = Look(*told)
                old = Look(told[0] - 1, old_ties(told[1], told[0]))
                want = tuple(tuple(ties[0] for ties in old.colours() if set(ties) <= set(whole))
                             for whole in look.colours())
                self.same(joined_classes(Web(*told)), want)
                self.assertEqual(sum(map(len, want)), len(old.colours()))

    def test_known(self):
        self.same(joined_classes(Web(2)), ())
        self.same(joined_classes(Web.full(2)), ((),))
        self.same(joined_classes(Web.full(3)), (((0, 1),), (), ()))
        self.same(joined_classes(Web(*STUCK)), (((0, 1), (2, 3)),))
        self.same(joined_classes(Web(*FIVE)), (((0, 1),),))
        self.same(len(joined_classes(Web.full(40))), 780)
        self.same(joined_classes(Web(40)), ())

    def test_error(self):
        self.told(BadNumber, {"name": "size"}, joined_classes, Web(1))


def own_nears(size, ties):
    return [[a for a, b in ties if b == thing] for thing in range(size)]


class GrownTest(Case):

    def test_webs(self):
        for told in list(middling_webs()) + [FIVE, NET] + list(some_webs(134, 60, (6, 7, 8, 9))):
            nears = own_nears(*told)
            w, number = grown(nears if len(nears) % 2 else tuple(map(tuple, nears)))
            self.same((w.size, w.ties), (told[0], told[1]))
            barred = [i for i in range(told[0]) if not has_orders(Web(*told).on(tuple(range(i + 1))))]
            self.same(number, barred[0] if barred else -1)
            if barred:
                self.assertEqual(barred, list(range(number, told[0])))
                rings = [ties for ties in colours(w.on(tuple(range(number + 1))))
                         if Look(number + 1, w.on(tuple(range(number + 1))).ties).is_odd(ties[0])]
                self.assertTrue(rings)

    def test_every_ring_has_the_thing(self):
        w, number = grown([[], [0], [1], [2], [3, 0], [0, 2]])
        self.same((w.ties, number), (((0, 1), (0, 4), (0, 5), (1, 2), (2, 3), (2, 5), (3, 4)), 4))
        self.same(has_orders(w.on((0, 1, 2, 3))), True)

    def test_large(self):
        nears = [[]] + [[thing - 1] for thing in range(1, 40)]
        self.same(grown(nears)[1], -1)
        nears[39] = [38, 0]
        self.same((grown(nears)[1], len(grown(nears)[0].ties)), (-1, 40))
        nears[38], nears[39] = [37, 0], [5]
        self.same(grown(nears)[1], 38)
        self.same(grown(((),))[0].ties, ())
        self.same(grown([tuple(range(thing)) for thing in range(40)])[0].ties, Web.full(40).ties)

    def test_errors(self):
        for value in strange_wholes() + [(), [], [()] * 41]:
            self.told(BadLot, {"place": -1}, grown, value)
        for value in strange_wholes() + [(2,), [-1], (0, 0), [True], (False,), ("0",), (0.0,), (None,), [0, 1, 2]]:
            self.told(BadLot, {"place": 2}, grown, [(), [0], value, None])
        self.told(BadLot, {"place": 0}, grown, [(0,)])
        self.told(BadLot, {"place": 1}, grown, [(), (1,), (2,)])
        self.same(grown(([], (0,), [1, 0]))[0].ties, ((0, 1), (0, 2), (1, 2)))

    def test_arguments_stay(self):
        nears = [[], [0], [1]]
        w, _ = grown(nears)
        self.assertEqual(nears, [[], [0], [1]])
        nears[2].append(0)
        nears.pop()
        self.same(w.ties, ((0, 1), (1, 2)))


if __name__ == "__main__":
    unittest.main()
