"""Walks from order to order and asked orders: points 61, 63 and 64."""

import types
import unittest

from ordersbehind.behind import Behind
from ordersbehind.errors import BadPair, BadRow, NotBehind, NotTied, TooMany
from ordersbehind.flips import distance
from ordersbehind.orders import Order
from ordersbehind.walks import asked, asked_cost, flip_walk, flips_of, walk
from ordersbehind.webs import Web
from tests.case import Case, strange_pairs, strange_wholes
from tests.plainly import HAT, LONE, MIXED, PATH, Look, nested_webs, webs_with_orders
from tests.test_flips import flipped, own_differing


def row_of_children(children, arrows):
    """The numbers of the children, those below first."""
    below = [sum((other[0], one[0]) in arrows for other in children) for one in children]
    return [below.index(many) for many in range(len(children))]


def own_asked(look, arrows, arrow):
    """The arrows of the asked order, as point 64 says."""
    a, b = arrow
    if arrow in arrows:
        return arrows
    knot = look.parting(a, b)
    if look.kind(knot) == "firm":
        return flipped(arrows, look.colour_of(arrow))
    children = look.children(knot)
    row = row_of_children(children, arrows)
    low = [number for number, child in enumerate(children) if a in child][0]
    high = [number for number, child in enumerate(children) if b in child][0]
    if len(children[low]) <= len(children[high]):
        row.remove(low)
        row.insert(row.index(high), low)
    else:
        row.remove(high)
        row.insert(row.index(low) + 1, high)
    found = {pair for pair in arrows if not parts_at(children, pair)}
    for i, one in enumerate(row):
        found |= {(x, y) for two in row[i + 1:] for x in children[one] for y in children[two]}
    return tuple(sorted(found))


def parts_at(children, pair):
    """True if the two things are in different ones of the children."""
    inside = [child for child in children if pair[0] in child or pair[1] in child]
    return len(inside) == 2


class WalkTest(Case):

    def test_every_two_orders(self):
        for told, orders in webs_with_orders():
            b, colours = Behind(Web(*told)), Look(*told).colours()
            for one in orders[::3]:
                for other in orders[::2]:
                    self.look_at(b, colours, one, other)

    def look_at(self, b, colours, one, other):
        p, q = Order(b.web.size, one), Order(b.web.size, other)
        found = walk(b, p, q)
        self.assertIs(found.__class__, tuple)
        self.assertTrue(found[0] == p and found[-1] == q)
        self.assertEqual(len(found), len(own_differing(colours, one, other)) + 1)
        for step, after in zip(found, found[1:]):
            self.assertEqual(len(own_differing(colours, step.arrows, after.arrows)), 1)
        for step in found:
            self.same(step in b, True)
            self.assertLessEqual(set(one) & set(other), set(step.arrows))

    def test_equal_orders(self):
        for told in (PATH, HAT, (1, ()), (4, ())):
            b = Behind(Web(*told))
            found = walk(b, b.at(0), b.at(0))
            self.same([p.arrows for p in found], [b.at(0).arrows])

    def test_large(self):
        b = Behind(Web.full(20))
        p = Order.along(list(range(10, 20)) + list(range(10)))
        found = walk(b, p, ~p)
        self.same(len(found), 191)
        self.same(len(flips_of(b, found)), 190)
        for told in nested_webs(22, 5, 40):
            b = Behind(Web(*told))
            p, q = b.at(b.many // 7), b.at(b.many - 1)
            found = walk(b, p, q)
            self.assertTrue(found[0] == p and found[-1] == q)
            self.same(len(flips_of(b, found)), distance(b, p, q))

    def test_errors(self):
        b = Behind(Web(*PATH))
        p, few, none = b.at(0), Order(4, [(0, 1), (2, 1)]), Order(4)
        self.told(NotBehind, {"first": 0, "second": 1}, walk, b, none, few)
        self.told(NotBehind, {"first": 2, "second": 3}, walk, b, few, none)
        self.told(NotBehind, {"first": 2, "second": 3}, walk, b, p, few)
        self.told(NotBehind, {"first": -1, "second": -1}, walk, b, p, Order(3))


class FlipWalkTest(Case):

    def test_every_order_once(self):
        for told, orders in webs_with_orders():
            b, colours = Behind(Web(*told)), Look(*told).colours()
            found = [p.arrows for p in flip_walk(b)]
            self.same(found[0], b.at(0).arrows)
            self.same(sorted(found), list(orders))
            for one, other in zip(found, found[1:]):
                self.assertEqual(len(own_differing(colours, one, other)), 1)

    def test_larger(self):
        for w in (Web.full(5), Web.full(4) | Web.full(4), Web(*PATH) & Web.full(3) & Web(2),
                  Web.full(3) | Web(*PATH) | Web(*HAT)):
            b = Behind(w)
            found = list(flip_walk(b))
            self.same(len({p.arrows for p in found}), b.many)
            self.same(len(flips_of(b, found)), b.many - 1)
            self.assertTrue(found[0] == b.at(0))

    def test_generator(self):
        b = Behind(Web(*HAT))
        self.assertIsInstance(flip_walk(b), types.GeneratorType)
        self.assertEqual(list(flip_walk(b)), list(flip_walk(b)))
        self.same([p.arrows for p in flip_walk(Behind(Web(3)))], [()])
        self.same([p.arrows for p in flip_walk(Behind(Web(1)))], [()])

    def test_bound(self):
        # 6 * 6 * 2 ** 7 orders, the most below 5,000; then 5,040, the least above.
        w = Web.full(3) | Web.full(3)
        for _ in range(7):
            w = w | Web.full(2)
        found = [p.arrows for p in flip_walk(Behind(w))]
        self.same((len(found), len(set(found))), (4608, 4608))
        for w in (Web.full(7), Web.full(40), Web(26, [(2 * a, 2 * a + 1) for a in range(13)])):
            steps = flip_walk(Behind(w))
            self.told(TooMany, {"name": "orders"}, next, steps)


class FlipsOfTest(Case):

    def test_good_walks(self):
        for told, orders in webs_with_orders():
            b, colours = Behind(Web(*told)), Look(*told).colours()
            found = list(flip_walk(b))
            want = [own_differing(colours, p.arrows, q.arrows)[0] for p, q in zip(found, found[1:])]
            self.same(flips_of(b, found), tuple(want))
            self.same(flips_of(b, tuple(found)), tuple(want))
            self.same(flips_of(b, [found[0]]), ())
            back = found + found[-2::-1]
            self.same(flips_of(b, back), tuple(want + want[::-1]))

    def test_spoilt_walks(self):
        b = Behind(Web.full(3))
        good = list(flip_walk(b))
        for place in range(6):
            for value in (None, 0, Order(3), Order.along((0, 1)), good[place].arrows, b, "order", [good[place]]):
                spoilt = list(good)
                spoilt[place] = value
                self.told(BadRow, {"place": place}, flips_of, b, spoilt)
        for place in range(1, 6):
            self.told(BadRow, {"place": place}, flips_of, b, good[:place] + good[place - 1:])
        self.told(BadRow, {"place": 1}, flips_of, b, (good[0], good[2]))
        self.told(BadRow, {"place": 1}, flips_of, b, (good[0], ~good[0], None))
        self.told(BadRow, {"place": 3}, flips_of, b, good[:3] + [good[0]] + [0])

    def test_other_values(self):
        b = Behind(Web(*PATH))
        for value in strange_wholes() + [(), [], b, b.at(0), iter([b.at(0)])]:
            self.told(BadRow, {"place": -1}, flips_of, b, value)
        self.told(BadRow, {"place": 0}, flips_of, b, [[]])


class AskedTest(Case):

    def test_against_every_order(self):
        for told, orders in webs_with_orders():
            b, look = Behind(Web(*told)), Look(*told)
            for arrows in orders[::4]:
                for arrow in look.arrows():
                    self.look_at(b, look, orders, arrows, arrow)

    def look_at(self, b, look, orders, arrows, arrow):
        p = Order(b.web.size, arrows)
        found = asked(b, p, list(arrow))
        self.same(found.arrows, own_asked(look, arrows, arrow))
        self.same(found.arrows in orders and arrow in found, True)
        flips, ties = asked_cost(b, p, arrow)
        self.assertIs(asked_cost(b, p, list(arrow)).__class__, tuple)
        colours = look.colours()
        having = [other for other in orders if arrow in other]
        self.same(flips, min(len(own_differing(colours, arrows, other)) for other in having))
        self.same(flips, len(own_differing(colours, arrows, found.arrows)))
        self.same(ties, min(len(set(arrows) - set(other)) for other in having))
        self.same(ties, len(set(arrows) - set(found.arrows)))
        if look.kind(look.parting(*arrow)) == "full":
            at_distance = [other for other in having if len(own_differing(colours, arrows, other)) == flips]
            self.assertEqual(len(at_distance), max(flips, 1))

    def test_has_it_already(self):
        b = Behind(Web.full(4))
        p = b.at(5)
        for arrow in p:
            self.assertTrue(asked(b, p, arrow) == p)
            self.same(asked_cost(b, p, arrow), (0, 0))

    def test_firm_knots(self):
        b = Behind(Web(*PATH))
        self.assertTrue(asked(b, b.at(0), (3, 2)) == b.at(1))
        self.same(asked_cost(b, b.at(0), (3, 2)), (1, 3))
        b = Behind(Web(*MIXED))
        self.same(asked_cost(b, b.at(0), (4, 3)), asked_cost(b, b.at(0), (1, 0)))
        self.same(asked_cost(b, b.at(0), (1, 0)), (1, 6))

    def test_lesser_child_is_moved(self):
        # The children, by number, have three, one, one and two things; in the order they stand as 0, 1, 2, 3.
        b = Behind(Web(3) & Web(1) & Web(1) & Web(2))
        p = b.order_of([(0, 1, 2, 3)])
        for arrow, row, cost in (((5, 0), (3, 0, 1, 2), (3, 6 + 2 + 2)), ((5, 3), (0, 2, 3, 1), (2, 2 + 1)),
                                 ((4, 2), (2, 0, 1, 3), (2, 3 + 1)), ((4, 3), (0, 2, 1, 3), (1, 1)),
                                 ((3, 1), (1, 0, 2, 3), (1, 3)), ((6, 4), (0, 1, 3, 2), (1, 2))):
            self.same(b.ways_of(asked(b, p, arrow)), (row,))
            self.same(asked_cost(b, p, arrow), cost)

    def test_of_equal_ones_the_first_is_moved(self):
        b = Behind(Web.full(4))
        p = Order.along((0, 1, 2, 3))
        self.assertTrue(asked(b, p, (3, 0)) == Order.along((3, 0, 1, 2)))
        self.assertTrue(asked(b, p, [3, 1]) == Order.along((0, 3, 1, 2)))
        self.same(asked_cost(b, p, (3, 0)), (3, 3))
        b = Behind(Web(2) & Web(1) & Web(2))
        self.same(b.ways_of(asked(b, b.at(0), (4, 0))), ((2, 0, 1),))
        self.same(asked_cost(b, b.at(0), (4, 0)), (2, 6))
        self.same(b.ways_of(asked(b, b.order_of([(2, 1, 0)]), (0, 4))), ((0, 2, 1),))

    def test_other_entries_stay(self):
        b = Behind(Web.full(3) & (Web(*PATH) | Web.full(3)))
        p = b.order_of([(2, 0, 3, 1), 1, (2, 0, 1)])
        self.same(b.ways_of(asked(b, p, (9, 7))), ((2, 0, 3, 1), 1, (2, 0, 1)))
        self.same(b.ways_of(asked(b, p, (7, 9))), ((2, 0, 3, 1), 1, (0, 2, 1)))
        self.same(b.ways_of(asked(b, p, (3, 4))), ((2, 0, 3, 1), 0, (2, 0, 1)))
        self.same(b.ways_of(asked(b, p, (1, 2))), ((1, 2, 0, 3), 1, (2, 0, 1)))
        self.same(b.ways_of(asked(b, p, (5, 0))), ((2, 3, 0, 1), 1, (2, 0, 1)))

    def test_large(self):
        b = Behind(Web.full(40))
        self.same(asked_cost(b, b.at(0), (39, 0)), (39, 39))
        b = Behind(Web(20) & Web(20))
        self.same(asked_cost(b, b.at(0), (39, 0)), (1, 400))

    def test_errors(self):
        b = Behind(Web(*PATH))
        p, other = b.at(0), Order(4)
        for call in (asked, asked_cost):
            for value in strange_pairs(4):
                self.told(BadPair, {"place": 0}, call, b, p, value)
                self.told(BadPair, {"place": 0}, call, b, other, value)
            self.told(NotBehind, {"first": 0, "second": 1}, call, b, other, (3, 0))
            self.told(NotBehind, {"first": -1, "second": -1}, call, b, Order(5), (0, 1))
            self.told(NotTied, {"first": 3, "second": 0}, call, b, p, (3, 0))
            self.told(NotTied, {"first": 0, "second": 2}, call, b, p, [0, 2])

    def test_argument_stays(self):
        b, arrow = Behind(Web(*LONE)), [4, 1]
        asked(b, b.at(0), arrow)
        self.assertEqual(arrow, [4, 1])


if __name__ == "__main__":
    unittest.main()
