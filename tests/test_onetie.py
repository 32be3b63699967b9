"""One arrow more or less: point 160."""

import unittest

from ordersbehind.errors import BadThing, NotArrow, NotClosed
from ordersbehind.onetie import added, dropped, may_add, may_drop
from ordersbehind.orders import Order
from tests.case import Case, strange_things
from tests.plainly import every_order, gap_of, webs_with_orders


def some_orders():
    for size in range(1, 5):
        for arrows in every_order(size):
            yield size, arrows
    for told, orders in webs_with_orders():
        if told[0] >= 5:
            yield told[0], orders[len(orders) // 2]


class AllPairsTest(Case):

    def test_every_two_things(self):
        for size, arrows in some_orders():
            p = Order(size, arrows)
            for a in range(size):
                for b in range(size):
                    self.look_at_add(p, a, b)
                    self.look_at_drop(p, a, b)

    def look_at_add(self, p, a, b):
        if a == b or (a, b) in p.arrows or (b, a) in p.arrows:
            for call in (may_add, added):
                self.told(BadThing, {"name": "second"}, call, p, a, b)
            return
        self.look_at(p, tuple(sorted(p.arrows + ((a, b),))), may_add, added, (a, b))

    def look_at_drop(self, p, a, b):
        if (a, b) not in p.arrows:
            for call in (may_drop, dropped):
                self.told(NotArrow, {"first": a, "second": b}, call, p, a, b)
            return
        self.look_at(p, tuple(arrow for arrow in p.arrows if arrow != (a, b)), may_drop, dropped, (a, b))

    def look_at(self, p, arrows, may, done, pair):
        gap = gap_of(arrows)
        self.same(may(p, *pair), gap is None)
        if gap is None:
            q = done(p, *pair)
            self.same((q.size, q.arrows), (p.size, arrows))
        else:
            self.told(NotClosed, {"first": gap[0], "second": gap[1], "third": gap[2]}, done, p, *pair)

    def test_to_and_fro(self):
        for size, arrows in some_orders():
            p = Order(size, arrows)
            for a, b in arrows:
                if may_drop(p, a, b):
                    self.assertTrue(added(dropped(p, a, b), a, b) == p)

    def test_large(self):
        p = Order.along(tuple(range(40)))
        self.same((may_drop(p, 4, 5), may_drop(p, 4, 6), len(dropped(p, 38, 39).arrows)), (True, False, 779))
        self.same((may_add(Order(40), 39, 0), added(Order(40), 39, 0).arrows), (True, ((39, 0),)))

    def test_errors(self):
        p = Order(3, [(0, 1)])
        for call in (may_add, added, may_drop, dropped):
            for value in strange_things(3):
                self.told(BadThing, {"name": "first"}, call, p, value, None)
                self.told(BadThing, {"name": "second"}, call, p, 2, value)
        self.told(NotArrow, {"first": 2, "second": 2}, may_drop, p, 2, 2)
        self.told(NotArrow, {"first": 1, "second": 0}, dropped, p, 1, 0)
        self.told(BadThing, {"name": "second"}, may_add, p, 1, 0)
        self.told(BadThing, {"name": "second"}, added, p, 1, 1)


if __name__ == "__main__":
    unittest.main()
