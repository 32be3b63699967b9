"""Drawings of a web: points 108 to 112."""

import types
import unittest
from math import factorial

from ordersbehind.behind import Behind
from ordersbehind.counts import count_orders
from ordersbehind.crossings import (backward_rows, common_part, contrary_rows, crossing_web, fits_both, is_drawing,
                                    turned_rows)
from ordersbehind.drawings import Drawings, count_pairs_for, pair_for, some_drawing
from ordersbehind.errors import BadNumber, BadRow, NoRows, NotBehind, NotDrawing, TooMany
from ordersbehind.lines import count_by_wood
from ordersbehind.orders import Order, web_of
from ordersbehind.rings import is_odd_ring
from ordersbehind.webs import Web
from tests.case import Case, strange_things, strange_wholes
from tests.plainly import (FIVE, HAT, LONE, MIXED, NET, PATH, Look, every_order, every_row, every_web, orders_of,
                           small_webs, some_webs)
from tests.test_crossings import own_common, own_ties

# Six things round a ring: it has orders, but its contrary has none.
SIX = (6, ((0, 1), (0, 5), (1, 2), (2, 3), (3, 4), (4, 5)))


def with_drawings():
    """Webs that have drawings."""
    webs = list(small_webs()) + list(every_web(5))[::31] + [HAT, LONE, MIXED, PATH]
    webs += [told for told in some_webs(41, 30, (6, 7))]
    return [told for told in dict.fromkeys(webs) if count_orders(Web(*told)) * count_orders(~Web(*told)) > 0]


def own_rows(p, q):
    """The two rows put together, told by the arrows of the two orders."""
    size = p.size
    ahead = [set(p.arrows) | set(q.arrows), {(b, a) for a, b in p.arrows} | set(q.arrows)]
    return tuple(tuple(sorted(range(size), key=lambda thing: sum((other, thing) in arrows for other in range(size))))
                 for arrows in ahead)


class MakingTest(Case):

    def test_attributes(self):
        w = Web(*HAT)
        d = Drawings(w)
        self.assertIs(d.web, w)
        self.assertIsInstance(vars(Drawings)["many"], property)
        self.assertTrue(d.tied_part == Behind(w) and d.free_part == Behind(~w))

    def test_no_rows(self):
        for told, contrary in ((FIVE, False), (NET, False), (SIX, True)):
            w = Web(*told)
            for call in (Drawings, some_drawing):
                error = self.told(NoRows, {"contrary": contrary}, call, w)
                look = Look(w.size, (~w if contrary else w).ties)
                self.same(is_odd_ring(~w if contrary else w, error.ring), True)
                self.same(len(error.ring), look.least_ring(look.ties))
                self.assertIs(error.ring.__class__, tuple)
        # Neither the web nor its contrary has orders: the web comes first.
        self.told(NoRows, {"contrary": False}, Drawings, Web(*FIVE))
        self.told(NoRows, {"contrary": False}, Drawings, Web(*FIVE) | Web(*SIX))
        self.told(NoRows, {"contrary": True}, Drawings, Web(*SIX) & Web(30))

    def test_exactly_if_both_have_orders(self):
        for told in list(every_web(5))[::3] + list(some_webs(42, 40, (6,))):
            w = Web(*told)
            try:
                many = Drawings(w).many
            except NoRows:
                many = 0
            self.assertEqual(many, count_orders(w) * count_orders(~w))


class EveryTwoRowsTest(Case):

    def test_small_webs(self):
        """All pairs of rows of at most four things, sorted into the webs in which they cross."""
        for size in range(1, 5):
            known = {}
            for one in every_row(size):
                for other in every_row(size):
                    known.setdefault(tuple(sorted(own_ties(one, other))), []).append((one, other))
            for told in every_web(size):
                self.look_at(Drawings(Web(*told)), known[told[1]])

    def look_at(self, d, pairs):
        found = list(d.by_number())
        self.same(d.many, len(pairs))
        self.assertEqual(sorted(found), sorted(pairs))
        for number, rows in enumerate(found):
            self.same(d.rows(number), rows)
            self.same(d.number_of_rows([list(rows[0]), list(rows[1])]), number)
            p, q = d.orders_of(rows)
            self.same((p.arrows, q.arrows), self.own_parts(d.web, rows[0]))
            self.same(number, d.tied_part.number_of(p) * d.free_part.many + d.free_part.number_of(q))
            self.same(d.put_together(p, q), rows)

    def own_parts(self, w, row):
        look = Look(w.size, w.ties)
        along = sorted((a, b) for place, a in enumerate(row) for b in row[place + 1:])
        return (tuple(arrow for arrow in along if look.tied(*arrow)),
                tuple(arrow for arrow in along if not look.tied(*arrow)))

    def test_larger_webs(self):
        for told in with_drawings():
            w, d = Web(*told), Drawings(Web(*told))
            self.same(d.many, self.by_knots(d))
            for number in sorted({0, 1 % d.many, d.many // 3, d.many // 2, d.many - 1}):
                rows = d.rows(number)
                self.assertIs(rows.__class__, tuple)
                self.same(rows, tuple(tuple(row) for row in rows))
                self.assertEqual(set(own_ties(*rows)), set(told[1]))
                p, q = d.orders_of([list(row) for row in rows])
                self.same(rows, own_rows(p, q))
                self.same((p.arrows, q.arrows), self.own_parts(w, rows[0]))
                self.same(d.number_of_rows(rows), number)

    def by_knots(self, d):
        many = 1
        for knot in d.tied_part.wood.knots:
            many *= 4 if knot.kind == "firm" else factorial(len(knot.children))
        return many

    def test_large(self):
        for w in (Web(40), Web.full(40), Web(40, [(a, a + 1) for a in range(39)]), Web.full(20) | Web.full(20)):
            d = Drawings(w)
            for number in (0, d.many // 7, d.many - 1):
                rows = d.rows(number)
                self.assertTrue(crossing_web(rows) == w)
                self.same(d.number_of_rows(rows), number)
        self.same((Drawings(Web(40)).many, Drawings(Web(40, [(a, a + 1) for a in range(39)])).many), (factorial(40), 4))
        self.same(Drawings(Web(1)).rows(0), ((0,), (0,)))

    def test_first_rows(self):
        """Rows that fit both are as many as drawings, and each is the first row of one."""
        for told in with_drawings():
            if told[0] <= 5:
                w, d = Web(*told), Drawings(Web(*told))
                both = [row for row in every_row(told[0]) if fits_both(w, row)]
                self.assertEqual(sorted(rows[0] for rows in d.by_number()), both)
                look, orders = Look(*told), orders_of(*told)
                most = len(orders) * count_by_wood(d.tied_part)
                self.assertLessEqual(d.many, most)
                apart = all(not look.tied(a, c) for b in look.things for a in look.things for c in look.things
                            if len({a, b, c}) == 3 and not look.tied(a, b) and not look.tied(b, c))
                self.assertEqual(d.many == most, apart)

    def test_other_pairs(self):
        for told in with_drawings():
            w, d, e = Web(*told), Drawings(Web(*told)), Drawings(~Web(*told))
            for number in sorted({0, d.many // 2, d.many - 1}):
                rows = d.rows(number)
                p, q = d.orders_of(rows)
                self.same(turned_rows(rows), d.put_together(~p, q))
                self.same(backward_rows(rows), d.put_together(~p, ~q))
                self.same(contrary_rows(rows), e.put_together(q, p))
                self.same((is_drawing(w, turned_rows(rows)), is_drawing(~w, contrary_rows(rows))), (True, True))


class ErrorsTest(Case):

    def test_number(self):
        d = Drawings(Web(*PATH))
        for value in (-1, 4, True, False, None, 0.0, "0", (0,), 10 ** 40):
            self.told(BadNumber, {"name": "number"}, d.rows, value)
        self.told(BadNumber, {"name": "number"}, Drawings(Web(40)).rows, factorial(40))

    def test_rows(self):
        d = Drawings(Web(*PATH))
        for call in (d.orders_of, d.number_of_rows):
            for value in strange_wholes() + [(), [], [(0, 1, 2, 3)], [(0, 1)] * 3, [(0, 1), (0,)]]:
                self.told(BadRow, {"place": -1}, call, value)
            for value in strange_things(4):
                self.told(BadRow, {"place": 1}, call, ((2, value, 0, 1), None))
                self.told(BadRow, {"place": 0}, call, ((2, 3, 0, 1), [value, 0, 1, 2]))
            self.told(BadRow, {"place": 2}, call, [(0, 1, 2), (1, 0, 1)])

    def test_not_drawing(self):
        d = Drawings(Web(*PATH))
        for call in (d.orders_of, d.number_of_rows):
            for rows in (([0], [0]), ((0, 1, 2), (1, 0, 2)), (tuple(range(5)), (1, 0, 3, 2, 4)), [list(range(40))] * 2):
                self.told(NotDrawing, {"first": -1, "second": -1}, call, rows)
            for one in every_row(4)[::5]:
                for other in every_row(4)[::3]:
                    unlike = sorted(set(own_ties(one, other)) ^ set(PATH[1]))
                    if unlike:
                        names = {"first": unlike[0][0], "second": unlike[0][1]}
                        self.told(NotDrawing, names, call, [one, list(other)])

    def test_not_behind(self):
        d = Drawings(Web(*PATH))
        p, q = d.tied_part.at(0), d.free_part.at(1)
        self.same(is_drawing(d.web, d.put_together(p, q)), True)
        self.told(NotBehind, {"first": 2, "second": 3}, d.put_together, Order(4, [(0, 1), (2, 1)]), q)
        self.told(NotBehind, {"first": 2, "second": 3}, d.put_together, Order(4, [(0, 1), (2, 1)]), Order(4))
        self.told(NotBehind, {"first": -1, "second": -1}, d.put_together, Order(5), q)
        self.told(NotBehind, {"first": 0, "second": 1}, d.put_together, p, p)
        self.told(NotBehind, {"first": 0, "second": 1}, d.put_together, q, p)
        self.told(NotBehind, {"first": 0, "second": 2}, d.put_together, p, Order(4))
        self.told(NotBehind, {"first": -1, "second": -1}, d.put_together, p, Order(5))

    def test_generator_and_bound(self):
        d = Drawings(Web(*HAT))
        self.assertIsInstance(d.by_number(), types.GeneratorType)
        self.same(list(d.by_number()), list(d.by_number()))
        # The number of drawings is a product of 4's and factorials: 4,608 and 5,040 are the nearest to the bound.
        w = Web.full(3) | Web(2)
        for number in range(7):
            w = w & Web(1) if number % 2 == 0 else w | Web(1)
        d = Drawings(w)
        self.same((d.many, len(set(d.by_number()))), (4608, 4608))
        for w in (Web.full(7), Web(7), Web(40), Web(12, [(2 * a, 2 * a + 1) for a in range(6)])):
            steps = Drawings(w).by_number()
            self.told(TooMany, {"name": "drawings"}, next, steps)
        self.same(Drawings(Web(7)).number_of_rows(Drawings(Web(7)).rows(5039)), 5039)


class CommonPartTest(Case):

    def test_every_order(self):
        for size in range(1, 5):
            pairs = {}
            for one in every_row(size):
                for other in every_row(size):
                    arrows = own_common((one, other))
                    pairs[arrows] = pairs.get(arrows, 0) + 1
            for arrows in every_order(size):
                p = Order(size, arrows)
                self.same(count_pairs_for(p), pairs[arrows])
                self.look_at(p)

    def look_at(self, p):
        found = pair_for(p)
        self.assertEqual(own_common(found), p.arrows)
        self.same(common_part(found).arrows, p.arrows)
        q = Behind(~web_of(p)).at(0)
        ahead = [set(p.arrows) | set(q.arrows), set(p.arrows) | {(b, a) for a, b in q.arrows}]
        want = [sorted(range(p.size), key=lambda thing: sum((other, thing) in arrows for other in range(p.size)))
                for arrows in ahead]
        self.same(found, (tuple(want[0]), tuple(want[1])))

    def test_larger(self):
        for told in with_drawings():
            b = Behind(Web(*told))
            for number in sorted({0, b.many // 2, b.many - 1}):
                self.look_at(b.at(number))
                self.same(count_pairs_for(b.at(number)), count_orders(~b.web))
        self.same(count_pairs_for(Order(40)), factorial(40))
        self.same(pair_for(Order.along((2, 0, 1))), ((2, 0, 1), (2, 0, 1)))
        self.same(pair_for(Order(3)), ((0, 1, 2), (2, 1, 0)))

    def test_none(self):
        b = Behind(Web(*SIX))
        for p in b.by_number():
            self.same(count_pairs_for(p), 0)
            error = self.told(NoRows, {"contrary": True}, pair_for, p)
            self.same(is_odd_ring(~b.web, error.ring), True)
            look = Look(6, (~b.web).ties)
            self.same(len(error.ring), look.least_ring(look.ties))

    def test_some_drawing(self):
        for told in with_drawings():
            self.same(some_drawing(Web(*told)), Drawings(Web(*told)).rows(0))


if __name__ == "__main__":
    unittest.main()
