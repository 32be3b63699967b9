"""Flips of colours, and how orders differ: points 61 to 63."""

import unittest
from itertools import product

from ordersbehind.behind import Behind
from ordersbehind.colourwood import count_colours, count_loose
from ordersbehind.errors import BadPair, NotBehind, NotLoose, NotTied
from ordersbehind.flips import differing, distance, flip, is_loose, loose
from ordersbehind.orders import Order
from ordersbehind.webs import Web
from tests.case import Case, strange_pairs
from tests.plainly import HAT, LONE, MIXED, PATH, Look, gap_of, nested_webs, turned_back, webs_with_orders


def flipped(arrows, colour):
    """The arrows with those of the colour turned."""
    return tuple(sorted((b, a) if tuple(sorted((a, b))) in colour else (a, b) for a, b in arrows))


def own_loose(colours, arrows):
    return tuple(colour[0] for colour in colours if gap_of(flipped(arrows, colour)) is None)


def own_differing(colours, one, other):
    return tuple(colour[0] for colour in colours if (colour[0] in one) != (colour[0] in other))


def own_spread(look):
    """How many choices of numbers, for firm and full knots as told in point 63, add up to each sum."""
    ranges = []
    for lot in look.knots():
        if look.kind(lot) == "firm":
            ranges.append(range(2))
        elif look.kind(lot) == "full":
            ranges.extend(range(i + 1) for i in range(1, len(look.children(lot))))
    sums = [sum(numbers) for numbers in product(*ranges)]
    return [sums.count(far) for far in range(max(sums) + 1)]


class LooseTest(Case):

    def test_against_every_order(self):
        for told, orders in webs_with_orders():
            b, colours = Behind(Web(*told)), Look(*told).colours()
            for arrows in orders:
                p = Order(told[0], arrows)
                want = own_loose(colours, arrows)
                self.same(loose(b, p), want)
                self.same(len(want), count_loose(b.wood))
                for colour in colours:
                    self.look_at(b, p, colour, colour[0] in want)

    def look_at(self, b, p, colour, is_free):
        for tie in (colour[0], colour[-1], colour[-1][::-1]):
            self.same(is_loose(b, p, tie), is_free)
            self.same(is_loose(b, p, list(tie)), is_free)
            if is_free:
                q = flip(b, p, list(tie))
                self.assertIs(q.__class__, Order)
                self.same(q.arrows, flipped(p.arrows, colour))
                self.assertTrue(flip(b, q, tie) == p)
            else:
                self.told(NotLoose, {"first": min(tie), "second": max(tie)}, flip, b, p, tie)

    def test_share_of_orders(self):
        for told, orders in webs_with_orders():
            look = Look(*told)
            for colour in look.colours():
                knot = look.parting(*colour[0])
                many = sum(colour[0] in own_loose([colour], arrows) for arrows in orders)
                k = len(look.children(knot))
                self.assertEqual(many, len(orders) if look.kind(knot) == "firm" else len(orders) * 2 // k)

    def test_nothing_tied(self):
        for size in (1, 2, 40):
            b, p = Behind(Web(size)), Order(size)
            self.same((loose(b, p), differing(b, b.at(0), p), distance(b, p, p)), ((), (), 0))

    def test_large(self):
        b = Behind(Web.full(40))
        p, q = b.at(0), Order.along((1, 0) + tuple(range(2, 40)))
        self.same(loose(b, p), tuple((a, a + 1) for a in range(39)))
        self.same((is_loose(b, p, (39, 38)), is_loose(b, p, [39, 37])), (True, False))
        self.assertTrue(flip(b, p, (1, 0)) == q)
        self.same((distance(b, p, ~p), distance(b, ~q, p), differing(b, q, p)), (780, 779, ((0, 1),)))
        self.told(NotLoose, {"first": 37, "second": 39}, flip, b, p, [39, 37])

    def test_tie_as_told(self):
        # The colour is called (0, 4), the tie that is passed is not.
        b = Behind(Web(2) & Web(2) & Web(2))
        p = b.order_of([(0, 1, 2)])
        self.same(loose(b, p), ((0, 2), (2, 4)))
        self.told(NotLoose, {"first": 1, "second": 5}, flip, b, p, (5, 1))
        self.told(NotLoose, {"first": 0, "second": 5}, flip, b, p, [0, 5])

    def test_errors(self):
        b = Behind(Web(*PATH))
        p, other = b.at(0), Order(4)
        for call in (is_loose, flip):
            for value in strange_pairs(4):
                self.told(BadPair, {"place": 0}, call, b, p, value)
                self.told(BadPair, {"place": 0}, call, b, other, value)
            self.told(NotBehind, {"first": 0, "second": 1}, call, b, other, (3, 0))
            self.told(NotBehind, {"first": -1, "second": -1}, call, b, Order(5), (3, 0))
            self.told(NotTied, {"first": 3, "second": 0}, call, b, p, (3, 0))
            self.told(NotTied, {"first": 0, "second": 2}, call, b, p, [0, 2])
        self.told(NotBehind, {"first": 2, "second": 3}, loose, b, Order(4, [(0, 1), (2, 1)]))
        self.told(NotBehind, {"first": -1, "second": -1}, loose, b, Order(3))


class DifferingTest(Case):

    def test_against_every_two_orders(self):
        for told, orders in webs_with_orders():
            b, colours = Behind(Web(*told)), Look(*told).colours()
            known = [Order(told[0], arrows) for arrows in orders]
            for p in known[::3]:
                for q in known:
                    want = own_differing(colours, p.arrows, q.arrows)
                    self.same(differing(b, p, q), want)
                    self.same(differing(b, q, p), want)
                    self.same(distance(b, p, q), len(want))

    def test_spread_of_distances(self):
        for told, orders in webs_with_orders():
            b, look = Behind(Web(*told)), Look(*told)
            spread = own_spread(look)
            known = [Order(told[0], arrows) for arrows in orders]
            for p in known[::4]:
                far = [distance(b, p, q) for q in known]
                self.assertEqual([far.count(d) for d in range(max(far) + 1)], spread)
                self.assertEqual(2 * sum(far), len(orders) * count_colours(b.wood))
                self.assertEqual(max(far), count_colours(b.wood))
                if told[1]:
                    self.assertEqual([known[at].arrows for at, d in enumerate(far) if d == max(far)],
                                     [turned_back(p.arrows)])

    def test_flips_along_deep_webs(self):
        for told in nested_webs(21, 6, 40):
            b = Behind(Web(*told))
            p = b.at(b.many // 3)
            names = loose(b, p)
            self.same(len(names), count_loose(b.wood))
            q = p
            for name in names[:6]:
                if is_loose(b, q, name):
                    q = flip(b, q, name[::-1])
            self.same(set(differing(b, p, q)) <= set(names), True)
            self.same(distance(b, p, ~p), count_colours(b.wood))

    def test_known(self):
        b = Behind(Web(*HAT))
        self.same(differing(b, b.at(0), b.at(3)), ((0, 1), (0, 4)))
        self.same(differing(b, b.at(1), b.at(3)), ((0, 4),))
        b = Behind(Web(*MIXED))
        self.same(differing(b, b.at(0), b.at(7)), ((0, 1), (0, 6), (1, 2)))
        b = Behind(Web(*LONE))
        self.same(distance(b, b.at(1), b.at(2)), 2)

    def test_errors(self):
        b = Behind(Web(*PATH))
        p, few, none = b.at(0), Order(4, [(0, 1), (2, 1)]), Order(4)
        for call in (differing, distance):
            self.told(NotBehind, {"first": 0, "second": 1}, call, b, none, few)
            self.told(NotBehind, {"first": 2, "second": 3}, call, b, few, none)
            self.told(NotBehind, {"first": 2, "second": 3}, call, b, p, few)
            self.told(NotBehind, {"first": -1, "second": -1}, call, b, p, Order(1))
            self.told(NotBehind, {"first": -1, "second": -1}, call, b, Order(5), few)


if __name__ == "__main__":
    unittest.main()
