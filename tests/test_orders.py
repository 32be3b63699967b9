"""Orders: points 1, 3, 5, 6, 7, 10 and 11."""

import unittest
from itertools import product

from ordersbehind.errors import BadLot, BadNumber, BadPair, BadRow, BadThing, NotClosed
from ordersbehind.orders import Order, is_behind, unlike_pair, web_of
from ordersbehind.webs import Web
from tests.case import Case, strange_pairs, strange_things, strange_wholes
from tests.plainly import all_pairs, every_order, every_row, every_web, gap_of


def every_arrows(size):
    """One arrow or none for each pair of things, in all ways."""
    for chosen in product((0, 1, 2), repeat=len(all_pairs(size))):
        yield [(a, b) if which == 1 else (b, a) for which, (a, b) in zip(chosen, all_pairs(size)) if which]


class MakingTest(Case):

    def test_attributes(self):
        for p in (Order(3, [(2, 1), [0, 1]]), Order(3, ((0, 1), (2, 1))), Order(size=3, arrows=[[2, 1], [0, 1]])):
            self.same((p.size, p.arrows), (3, ((0, 1), (2, 1))))
        self.same(Order(3).arrows, ())

    def test_sizes(self):
        for size in (1, 40):
            self.same(Order(size).size, size)
        for size in (0, 41, -1, True, False, 1.0, "1", None, [1], 10 ** 30):
            self.told(BadNumber, {"name": "size"}, Order, size)
            self.told(BadNumber, {"name": "size"}, Order, size, "bad")

    def test_bad_arrows(self):
        for value in strange_wholes():
            self.told(BadPair, {"place": -1}, Order, 3, value)
        for value in strange_pairs(3):
            self.told(BadPair, {"place": 1}, Order, 3, [(1, 0), value, (1, 0)])
        self.told(BadPair, {"place": 1}, Order, 3, [(1, 0), (0, 1)])
        self.told(BadPair, {"place": 1}, Order, 3, [(1, 0), (1, 0)])
        self.told(BadPair, {"place": 2}, Order, 3, [(1, 0), (0, 2), [0, 1]])

    def test_closed_or_not(self):
        for size in (3, 4):
            for arrows in every_arrows(size):
                gap = gap_of(arrows)
                if gap is None:
                    self.same(Order(size, arrows).arrows, tuple(sorted(arrows)))
                else:
                    names = dict(zip(("first", "second", "third"), gap))
                    self.told(NotClosed, names, Order, size, arrows)

    def test_ring_is_not_closed(self):
        self.told(NotClosed, {"first": 0, "second": 1, "third": 2}, Order, 3, [(2, 0), (1, 2), (0, 1)])

    def test_argument_changed_later(self):
        arrows = [[1, 0], [1, 2]]
        p = Order(3, arrows)
        self.assertEqual(arrows, [[1, 0], [1, 2]])
        arrows[0][1] = 2
        arrows.append([0, 2])
        self.same(p.arrows, ((1, 0), (1, 2)))
        self.assertTrue(p.has(1, 0))


class AlongTest(Case):

    def test_along(self):
        for size in (1, 2, 3, 4):
            for row in every_row(size):
                for passed in (row, list(row)):
                    p = Order.along(passed)
                    want = sorted((row[i], row[j]) for i, j in all_pairs(size))
                    self.same((p.size, p.arrows), (size, tuple(want)))
        self.assertIs(Order.along([0]).__class__, Order)
        self.same(Order.along(list(range(40))).size, 40)

    def test_errors(self):
        for value in strange_wholes() + [(), [], list(range(41)), (0,) * 41]:
            self.told(BadRow, {"place": -1}, Order.along, value)
        for value in strange_things(3):
            self.told(BadRow, {"place": 1}, Order.along, [0, value, 0])
        self.told(BadRow, {"place": 2}, Order.along, (0, 1, 0))
        self.told(BadRow, {"place": 0}, Order.along, (1,))


class LookingTest(Case):

    def test_has_below_above(self):
        for size in (1, 2, 3, 4):
            for arrows in every_order(size):
                p = Order(size, arrows)
                for a in range(size):
                    for b in range(size):
                        self.same(p.has(a, b), (a, b) in arrows)
                        self.same((a, b) in p, (a, b) in arrows)
                        self.same([a, b] in p, (a, b) in arrows)
                    self.same(p.below(a), tuple(b for b in range(size) if (b, a) in arrows))
                    self.same(p.above(a), tuple(b for b in range(size) if (a, b) in arrows))
                self.same(p.bottoms(), tuple(b for b in range(size) if b not in [arrow[1] for arrow in arrows]))
                self.same(p.tops(), tuple(a for a in range(size) if a not in [arrow[0] for arrow in arrows]))

    def test_thing_errors(self):
        p = Order(3, [(0, 1)])
        for value in strange_things(3):
            self.told(BadThing, {"name": "first"}, p.has, value, value)
            self.told(BadThing, {"name": "second"}, p.has, 0, value)
            self.told(BadThing, {"name": "thing"}, p.below, value)
            self.told(BadThing, {"name": "thing"}, p.above, value)

    def test_in(self):
        for value in strange_pairs(3) + strange_wholes():
            self.same(value in Order.along([1, 0, 2]), False)

    def test_len_and_iterating(self):
        for size in (1, 2, 40):
            self.same(len(Order(size)), size)
        self.same(list(Order(3, [[2, 1], [0, 1]])), [(0, 1), (2, 1)])
        self.same(list(Order(1)), [])

    def test_equal(self):
        p = Order(3, [(0, 1)])
        self.same(p == Order(3, ([0, 1],)), True)
        self.same(p == Order(4, [(0, 1)]), False)
        self.same(p == Order(3, [(1, 0)]), False)
        self.same(p != Order(3, [(0, 1)]), False)
        for value in (None, 3, ((0, 1),), (3, ((0, 1),)), "order", Web(3, [(0, 1)])):
            self.same(p == value, False)
            self.same(p != value, True)

    def test_contrary(self):
        for arrows in every_order(4):
            p = ~Order(4, arrows)
            self.same((p.size, p.arrows), (4, tuple(sorted((b, a) for a, b in arrows))))


class NewOrdersTest(Case):

    def test_on_without_renamed(self):
        rows = every_row(4)
        for at, arrows in enumerate(every_order(4)):
            p, w = Order(4, arrows), web_of(Order(4, arrows))
            for mask in range(1, 16):
                lot = [a for a in range(4) if mask >> a & 1]
                want = sorted((lot.index(a), lot.index(b)) for a, b in arrows if a in lot and b in lot)
                self.same((p.on(lot[::-1]).size, p.on(lot[::-1]).arrows), (len(lot), tuple(want)))
                self.assertTrue(web_of(p.on(tuple(lot))) == w.on(lot))
            for thing in range(4):
                lot = [a for a in range(4) if a != thing]
                self.assertTrue(p.without(thing) == p.on(lot))
                self.assertTrue(web_of(p.without(thing)) == w.without(thing))
            row = rows[at % 24]
            self.same(p.renamed(list(row)).arrows, tuple(sorted((row[a], row[b]) for a, b in arrows)))
            self.assertTrue(web_of(p.renamed(row)) == w.renamed(row))

    def test_errors(self):
        p = Order(3, [(0, 1)])
        for value in strange_wholes() + [[], ()]:
            self.told(BadLot, {"place": -1}, p.on, value)
            self.told(BadRow, {"place": -1}, p.renamed, value)
        for value in ((0, 1), [0, 1, 2, 3]):
            self.told(BadRow, {"place": -1}, p.renamed, value)
        for value in strange_things(3):
            self.told(BadLot, {"place": 1}, p.on, [0, value])
            self.told(BadRow, {"place": 1}, p.renamed, [0, value, 0])
            self.told(BadThing, {"name": "thing"}, p.without, value)
        self.told(BadLot, {"place": 1}, p.on, [0, 0])
        self.told(BadRow, {"place": 2}, p.renamed, [0, 1, 0])
        self.told(BadNumber, {"name": "size"}, Order(1).without, 0)
        self.told(BadThing, {"name": "thing"}, Order(1).without, 1)

    def test_nothing_changes(self):
        p, lot, row = Order(3, [(0, 1), (0, 2)]), [2, 0], [1, 2, 0]
        p.on(lot), p.without(0), p.renamed(row), ~p, p | p, p & p, p.bottoms()
        self.same((p.size, p.arrows, lot, row), (3, ((0, 1), (0, 2)), [2, 0], [1, 2, 0]))

    def test_side_by_side(self):
        orders = [(size, arrows) for size in (1, 2, 3) for arrows in every_order(size)]
        for size, arrows in orders:
            for more, other in orders:
                moved = [(a + size, b + size) for a, b in other]
                between = [(a, size + b) for a in range(size) for b in range(more)]
                p, q = Order(size, arrows), Order(more, other)
                self.same(((p | q).size, (p | q).arrows), (size + more, tuple(sorted(list(arrows) + moved))))
                self.same((p & q).arrows, tuple(sorted(list(arrows) + moved + between)))
                self.assertTrue(web_of(p | q) == web_of(p) | web_of(q))
                self.assertTrue(web_of(p & q) == web_of(p) & web_of(q))

    def test_size_side_by_side(self):
        self.same((Order(39) | Order(1)).size, 40)
        self.same((Order(1) & Order(39)).size, 40)
        for p, q in ((Order(40), Order(1)), (Order(1), Order(40)), (Order(21), Order(20))):
            self.told(BadNumber, {"name": "size"}, lambda: p | q)
            self.told(BadNumber, {"name": "size"}, lambda: p & q)


class BehindTest(Case):

    def test_web_of(self):
        for arrows in every_order(4):
            w = web_of(Order(4, arrows))
            self.same((w.size, w.ties), (4, tuple(sorted(tuple(sorted(arrow)) for arrow in arrows))))

    def test_unlike_pair(self):
        webs = [Web(*told) for told in every_web(3)]
        for arrows in every_order(3):
            p = Order(3, arrows)
            for w in webs:
                unlike = [pair for pair in all_pairs(3) if (pair in w) != (pair in arrows or pair[::-1] in arrows)]
                self.same(unlike_pair(p, w), unlike[0] if unlike else None)
                self.same(is_behind(p, w), not unlike)

    def test_other_sizes(self):
        self.same(unlike_pair(Order(3), Web(2)), (-1, -1))
        self.same(unlike_pair(Order(2, [(1, 0)]), Web(3, [(0, 1)])), (-1, -1))
        self.same(is_behind(Order(3), Web(2)), False)
        self.same(is_behind(Order(2), Web(3)), False)

    def test_contrary_is_behind_too(self):
        for arrows in every_order(4):
            p = Order(4, arrows)
            self.assertTrue(is_behind(p, web_of(p)))
            self.assertTrue(is_behind(~p, web_of(p)))

    def test_later_pairs(self):
        self.same(unlike_pair(Order(40), Web(40, [(38, 39), (2, 39), (2, 20)])), (2, 20))
        self.same(unlike_pair(Order(40, [(39, 38)]), Web(40)), (38, 39))


if __name__ == "__main__":
    unittest.main()
