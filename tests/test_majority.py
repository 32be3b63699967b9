"""The nearest order behind a web with one thing more: points 157 to 159."""

import unittest
from itertools import combinations

from ordersbehind.behind import Behind
from ordersbehind.counts import count_orders, has_orders
from ordersbehind.crossings import crossing_web, is_drawing
from ordersbehind.drawings import Drawings
from ordersbehind.errors import BadPair, NoMiddle, NoOrders, NotBehind, NotTied, OtherWeb
from ordersbehind.flips import differing, distance
from ordersbehind.growing import count_going, goes_on, with_thing
from ordersbehind.majority import count_nearest, least_turned, majority_of, nearest, turned_ties
from ordersbehind.middles import is_between, middle
from ordersbehind.orders import Order
from ordersbehind.rings import is_odd_ring
from ordersbehind.webs import Web
from tests.case import Case, strange_pairs
from tests.plainly import FIVE, PATH, Look, nested_webs, orders_of, turned_back
from tests.test_growing import STUCK, grown_webs, lone_child, old_ties

# Full knots with an even choice between a child with the new thing and another one.
EVEN_FULL = (4, ((0, 1), (0, 2), (0, 3), (1, 2)))


def own_turned(arrows, other):
    return sum((b, a) in other for a, b in arrows)


def own_nearest(size, ties, arrows):
    """The arrows that point 157 takes, from its words."""
    look, new, found = Look(size, ties), size - 1, []
    for colour in look.colours():
        first = look.class_of(colour[0])
        along = sum(arrow in arrows for arrow in first)
        against = sum((b, a) in arrows for a, b in first)
        a, b = colour[0]
        lot = look.parting(a, b)
        if along != against:
            good = along > against
        elif look.kind(lot) == "firm":
            tie = min(tie for tie in colour if new not in tie)
            good = (tie in first) == (tie in arrows)
        else:
            child = [lots for lots in look.children(lot) if new in lots][0]
            good = b in child
        found.extend(first if good else turned_back(first))
    return tuple(sorted(found))


def cases():
    """Webs with orders, and orders for them: size, ties and arrows."""
    for told in grown_webs() + [EVEN_FULL]:
        if orders_of(*told):
            for arrows in orders_of(told[0] - 1, old_ties(told[1], told[0])):
                yield told[0], told[1], arrows


class NearestTest(Case):

    def test_against_every_order(self):
        met = {}
        for size, ties, arrows in cases():
            w, p = Web(size, ties), Order(size - 1, arrows)
            every = {found: own_turned(arrows, found) for found in orders_of(size, ties)}
            least = min(every.values())
            found = nearest(p, w)
            self.same((found.size, found.arrows), (size, own_nearest(size, ties, arrows)))
            self.assertEqual(every[found.arrows], least)
            self.same(least_turned(p, w), least)
            closest = [one for one, turned in every.items() if turned == least]
            self.same(count_nearest(p, w), len(closest))
            self.same(turned_ties(p, found), least)
            self.same(least == 0, count_going(p, w) > 0)
            met[least, len(closest)] = True
        self.assertTrue({(0, 1), (1, 2), (0, 2), (0, 3), (1, 1)} <= set(met))

    def test_closest_orders(self):
        """Point 158: closest orders are joined by flips, and what is between two of them is closest."""
        for size, ties, arrows in list(cases())[::3]:
            w, p = Web(size, ties), Order(size - 1, arrows)
            b, least = Behind(w), least_turned(p, w)
            closest = [q for q in b.by_number() if turned_ties(p, q) == least]
            if 1 < len(closest) <= 24:
                for one, other in combinations(closest, 2):
                    for q in b.by_number():
                        if is_between(b, one, q, other):
                            self.assertIn(q.arrows, [near.arrows for near in closest])
                met, front = [closest[0]], [closest[0]]
                while front:
                    q = front.pop()
                    for near in closest:
                        if not any(near == one for one in met) and distance(b, q, near) == 1:
                            met.append(near)
                            front.append(near)
                self.assertEqual(len(met), len(closest))

    def test_distances_and_middles(self):
        """Point 159, its first two sentences."""
        for told in grown_webs()[::2]:
            w = Web(*told)
            if has_orders(w) and count_orders(w) <= 24:
                b, old = Behind(w), Behind(w.without(w.size - 1))
                children = lone_child(*told)
                every = list(b.by_number())
                less = [p.without(w.size - 1) for p in every]
                for one, other in combinations(range(len(every)), 2):
                    most = distance(old, less[one], less[other]) + (children - 1 if children else 0)
                    self.assertLessEqual(distance(b, every[one], every[other]), most)
                for three in list(combinations(range(len(every)), 3))[::7]:
                    try:
                        p = middle(b, *[every[i] for i in three])
                    except NoMiddle:
                        continue
                    self.assertTrue(p.without(w.size - 1) == middle(old, *[less[i] for i in three]))

    def test_drawings(self):
        """Point 159, its third sentence."""
        for told in grown_webs()[::2]:
            w = Web(*told)
            if has_orders(w) and has_orders(~w) and w.size <= 6:
                d, old = Drawings(w), Drawings(w.without(w.size - 1))
                if d.many <= 100:
                    for number in sorted({0, old.many // 2, old.many - 1}):
                        self.look_at_drawing(d, old, old.rows(number))

    def look_at_drawing(self, d, old, rows):
        p, q = old.orders_of(rows)
        one, other = nearest(p, d.web), nearest(q, ~d.web)
        found = d.put_together(one, other)
        self.same(is_drawing(d.web, found), True)
        for place in (0, 1):
            crossed = [self.crossings(drawn[place], rows[place]) for drawn in d.by_number()]
            self.assertEqual(self.crossings(found[place], rows[place]), min(crossed))

    def crossings(self, row, old):
        return len(crossing_web([[thing for thing in row if thing < len(old)], old]).ties)

    def test_equal_numbers(self):
        # The two pieces of the old web are one colour of the firm knot; the least old tie counts.
        for arrows, want in ((((0, 1), (2, 3)), ((0, 1), (3, 2), (4, 1), (4, 2))),
                             (((1, 0), (3, 2)), ((1, 0), (1, 4), (2, 3), (2, 4)))):
            p, w = Order(4, arrows), Web(*STUCK)
            self.same((nearest(p, w).arrows, least_turned(p, w), count_nearest(p, w)), (want, 1, 2))
            self.same(majority_of(p, w, (0, 1)), (1, 1))
        # A new thing tied to all: it is above the children of the full knot that are even.
        p = Order(2, [(1, 0)])
        self.same((nearest(p, Web.full(3)).arrows, count_nearest(p, Web.full(3))), (((0, 2), (1, 0), (1, 2)), 3))
        # The children are 0 alone and the other things; of the old triangle one tie goes each way.
        p, w = Order.along((1, 0, 2)), Web(4, [(0, 1), (0, 2), (0, 3), (1, 2)])
        self.same((goes_on(p, w), least_turned(p, w), count_nearest(p, w)), ((), 1, 2))
        self.same((nearest(p, w).arrows, majority_of(p, w, (3, 0))), (((0, 1), (0, 2), (0, 3), (1, 2)), (1, 1)))

    def test_large(self):
        p = Order.along(tuple(range(39)))
        self.same((nearest(p, Web.full(40)) == Order.along(tuple(range(40))), count_nearest(p, Web.full(40))),
                  (True, 40))
        path = Web(19, [(a, a + 1) for a in range(18)])
        w = with_thing(path | path, (18, 19))
        b = Behind(path | path)
        self.same([least_turned(b.at(number), w) for number in range(4)].count(0), 2)
        self.same([count_nearest(b.at(number), w) for number in range(4)], [1 if least_turned(b.at(number), w) == 0
                                                                           else 2 for number in range(4)])
        for told in nested_webs(141, 20, 11):
            w = Web(*told)
            old = Behind(w.without(w.size - 1))
            for number in sorted({0, old.many // 2, old.many - 1}):
                p = old.at(number)
                q = nearest(p, w)
                self.assertIn(q, Behind(w))
                self.same(turned_ties(p, q), least_turned(p, w))

    def test_errors(self):
        w = Web(*PATH)
        for call in (nearest, least_turned, count_nearest, lambda p, v: majority_of(p, v, (0, 1))):
            for p in (Order(4), Order(2), Order(5)):
                self.told(NotBehind, {"first": -1, "second": -1}, call, p, w)
            self.told(NotBehind, {"first": 1, "second": 2}, call, Order(3, [(0, 1)]), w)
            self.told(NotBehind, {"first": 0, "second": 1}, call, Order(4), Web(*FIVE))
            p = Behind(Web(*FIVE).without(4)).at(1)
            error = self.told(NoOrders, {}, call, p, Web(*FIVE))
            self.same((is_odd_ring(Web(*FIVE), error.ring), len(error.ring)), (True, 5))
        for call in (nearest, least_turned, count_nearest):
            self.told(NotBehind, {"first": -1, "second": -1}, call, Order(1), Web(1))


class TurnedTest(Case):

    def test_every_two(self):
        for told in grown_webs()[::6]:
            larger = orders_of(*told)
            smaller = orders_of(told[0] - 1, old_ties(told[1], told[0]))
            for one in smaller[::2]:
                for other in larger[::2]:
                    self.same(turned_ties(Order(told[0] - 1, one), Order(told[0], other)), own_turned(one, other))
                for other in smaller:
                    self.same(turned_ties(Order(told[0] - 1, one), Order(told[0] - 1, other)), own_turned(one, other))

    def test_known(self):
        p = Order.along((0, 1, 2))
        self.same([turned_ties(p, ~p), turned_ties(p, p), turned_ties(p, Order(3)), turned_ties(p, Order(4))],
                  [3, 0, 0, 0])
        self.same(turned_ties(p, Order(4, [(2, 0), (2, 3), (3, 0)])), 1)

    def test_other_sizes(self):
        for size in (1, 2, 5, 40):
            self.told(OtherWeb, {"first": -1, "second": -1}, turned_ties, Order(3), Order(size))


class MajorityOfTest(Case):

    def test_every_tie(self):
        for size, ties, arrows in list(cases())[::2]:
            w, p, look = Web(size, ties), Order(size - 1, arrows), Look(size, ties)
            q = nearest(p, w)
            for tie in ties:
                first = look.class_of(look.colour_of(tie)[0])
                want = sum(arrow in arrows for arrow in first), sum((b, a) in arrows for a, b in first)
                self.same(majority_of(p, w, tie), want)
                self.same(majority_of(p, w, [tie[1], tie[0]]), want)
                if want[0] != want[1]:
                    self.assertEqual(look.colour_of(tie)[0] in q, want[0] > want[1])

    def test_flips_of_even_colours(self):
        """At a firm knot with an even colour the flip of the nearest order is the other closest one."""
        w, p = Web(*STUCK), Order(4, [(0, 1), (2, 3)])
        b = Behind(w)
        one, other = b.by_number()
        self.same((turned_ties(p, one), turned_ties(p, other), differing(b, one, other)), (1, 1, ((0, 1),)))

    def test_errors(self):
        w, p = Web(*PATH), Order(3, [(0, 1), (2, 1)])
        for value in strange_pairs(4):
            self.told(BadPair, {"place": 0}, majority_of, p, w, value)
        for value in strange_pairs(5):
            self.told(BadPair, {"place": 0}, majority_of, Order(9), Web(*FIVE), value)
        self.told(NotTied, {"first": 3, "second": 0}, majority_of, p, w, (3, 0))
        self.told(NotBehind, {"first": -1, "second": -1}, majority_of, Order(4), w, (3, 0))
        q = Behind(Web(*FIVE).without(4)).at(0)
        self.told(NotTied, {"first": 2, "second": 0}, majority_of, q, Web(*FIVE), [2, 0])
        self.told(NoOrders, {}, majority_of, q, Web(*FIVE), [1, 0])


if __name__ == "__main__":
    unittest.main()
