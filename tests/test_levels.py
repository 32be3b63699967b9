"""Levellings: points 97, 98 and 101."""

import random
import unittest
from itertools import combinations, product

from ordersbehind.errors import BadLevels, BadLot, BadNumber, NotPart, TooMany
from ordersbehind.levels import count_levellings, is_levelling, turned_levels
from ordersbehind.orders import Order
from ordersbehind.turns import turn
from tests.case import Case, strange_things, strange_wholes
from tests.plainly import Look, every_lot, every_order, webs_with_orders
from tests.test_lines import FENCE14
from tests.test_turns import own_crossing


def own_levelling(arrows, levels, strict):
    return all(levels[a] < levels[b] if strict else levels[a] <= levels[b] for a, b in arrows)


def strange_manies():
    return [0, 13, -1, 40, True, False, None, 1.0, "3", (3,), [3], 10 ** 30]


class IsLevellingTest(Case):

    def test_small_orders(self):
        for size in range(1, 5):
            for arrows in list(every_order(size))[::1 if size < 4 else 5]:
                p = Order(size, arrows)
                for many in (1, 2, 3):
                    for levels in product(range(many), repeat=size):
                        self.same(is_levelling(p, many, list(levels)), own_levelling(arrows, levels, True))
                        self.same(is_levelling(p, many, levels, strict=True), own_levelling(arrows, levels, True))
                        self.same(is_levelling(p, many, levels, strict=False), own_levelling(arrows, levels, False))

    def test_spoilt(self):
        p = Order(3, [(0, 1), (2, 1)])
        self.same([is_levelling(p, 3, levels) for levels in ((0, 2, 1), [1, 2, 0], (0, 1, 0))], [True] * 3)
        for levels in ((0, 3, 1), (-1, 2, 1), (0, 1, 1), (2, 1, 0), (0, 2), (0, 2, 1, 1), (0, True, 0), (False, 2, 1),
                       (0, 2.0, 1), ("0", "2", "1"), (None, 2, 1), ((0,), 2, 1), (0, 10 ** 30, 1)):
            self.same(is_levelling(p, 3, levels), False)
            self.same(is_levelling(p, 3, list(levels), strict=False),
                      len(levels) == 3 and all(level.__class__ is int and 0 <= level < 3 for level in levels)
                      and levels[0] <= levels[1] >= levels[2])
        self.same((is_levelling(p, 2, (0, 2, 1)), is_levelling(p, 3, (0, 1, 1), strict=False)), (False, True))
        for value in strange_wholes() + [(), [], iter((0, 2, 1)), p]:
            self.same((is_levelling(p, 3, value), is_levelling(p, 3, value, strict=False)), (False, False))

    def test_large(self):
        p = Order.along(tuple(range(12)))
        self.same((is_levelling(p, 12, tuple(range(12))), is_levelling(p, 12, (0,) * 12)), (True, False))
        self.same(is_levelling(p, 1, (0,) * 12, strict=False), True)
        self.same(is_levelling(Order(40), 12, [11] * 40), True)
        self.same(is_levelling(Order(40), 11, [11] * 40), False)

    def test_errors(self):
        for value in strange_manies():
            self.told(BadNumber, {"name": "many"}, is_levelling, Order(3), value, None)
            self.told(BadNumber, {"name": "many"}, is_levelling, Order(3), value, (0, 0, 0), strict=False)


class CountTest(Case):

    def test_small_orders(self):
        for size in range(1, 5):
            for arrows in list(every_order(size))[::1 if size < 4 else 4]:
                p = Order(size, arrows)
                for many in (1, 2, 3, 4):
                    every = list(product(range(many), repeat=size))
                    strict = sum(own_levelling(arrows, levels, True) for levels in every)
                    self.same(count_levellings(p, many), strict)
                    self.same(count_levellings(p, many, strict=True), strict)
                    self.same(count_levellings(p, many, strict=False),
                              sum(own_levelling(arrows, levels, False) for levels in every))

    def test_the_same_behind_one_web(self):
        for told, orders in webs_with_orders():
            for many in (1, 2, 3, 7):
                for strict in (True, False):
                    counts = {count_levellings(Order(told[0], arrows), many, strict=strict) for arrows in orders[::3]}
                    self.assertEqual(len(counts), 1)

    def test_greatest_number_pairwise_tied(self):
        for told, orders in webs_with_orders():
            look, p = Look(*told), Order(told[0], orders[-1])
            most = max(len(lot) for lot in every_lot(told[0]) if all(look.tied(a, b) for a, b in combinations(lot, 2)))
            for many in range(1, told[0] + 1):
                self.assertEqual(count_levellings(p, many) > 0, many >= most)

    def test_sets_closed_downwards(self):
        for told, orders in webs_with_orders():
            look, arrows = Look(*told), orders[0]
            lots = every_lot(told[0], least=0)
            closed = sum(all(a in lot for a, b in arrows if b in lot) for lot in lots)
            apart = sum(not any(look.tied(a, b) for a, b in combinations(lot, 2)) for lot in lots)
            self.assertEqual(closed, apart)
            self.same(count_levellings(Order(told[0], arrows), 2, strict=False), closed)

    def test_pieces(self):
        """The levels of things that no arrows lead from one to the other are chosen apart."""
        chance = random.Random(97)
        for _ in range(40):
            one, other = [Order(*chance.choice(self.few())) for _ in range(2)]
            p = one | other
            p = p.renamed(chance.sample(range(p.size), p.size))
            for many in (1, 2, 3, 7, 12):
                for strict in (True, False):
                    want = count_levellings(one, many, strict=strict) * count_levellings(other, many, strict=strict)
                    self.same(count_levellings(p, many, strict=strict), want)

    def few(self):
        return [(4, ((0, 1), (2, 1), (2, 3))), (5, ((0, 1), (0, 3), (2, 1), (2, 3), (4, 3))), (1, ()), (3, ((0, 2),)),
                (7, tuple((a, a + 1) if a % 2 == 0 else (a + 1, a) for a in range(6)))]

    def test_of_larger_orders(self):
        """By the sets that are closed downwards, level by level."""
        for size, arrows in [(7, ((0, 1), (0, 3), (2, 1), (2, 3), (4, 3), (4, 5), (6, 5))), (7, ((0, 6), (1, 6))),
                             (8, ((0, 2), (0, 3), (1, 3), (1, 2), (4, 5))), (9, ((0, 8), (1, 8), (1, 7), (2, 7)))]:
            masks = [sum(1 << thing for thing in lot) for lot in every_lot(size, least=0)
                     if all(a in lot for a, b in arrows if b in lot)]
            for strict in (True, False):
                ways = {0: 1}
                for many in (1, 2, 3):
                    coming = {}
                    for lot, count in ways.items():
                        for more in masks:
                            inside = more & ~lot
                            flat = not any(inside >> a & 1 and inside >> b & 1 for a, b in arrows)
                            if lot & ~more == 0 and (flat or not strict):
                                coming[more] = coming.get(more, 0) + count
                    ways = coming
                    self.same(count_levellings(Order(size, arrows), many, strict=strict),
                              ways.get((1 << size) - 1, 0))

    def test_fourteen_things(self):
        p = Order.along(tuple(range(14)))
        self.same([count_levellings(p, 2, strict=False), count_levellings(p, 1), count_levellings(p, 1, strict=False)],
                  [15, 0, 1])
        self.same([count_levellings(p, 12), count_levellings(p, 12, strict=False)], [0, 4457400])
        star = Order(14, [(0, thing) for thing in range(1, 14)])
        self.same([count_levellings(star, many, strict=False) for many in (1, 2, 12)],
                  [sum(level ** 13 for level in range(1, many + 1)) for many in (1, 2, 12)])
        self.same([count_levellings(star, many) for many in (1, 2, 12)],
                  [sum(level ** 13 for level in range(many)) for many in (1, 2, 12)])

    def test_known(self):
        self.same([count_levellings(Order(14), 12), count_levellings(Order(14), 12, strict=False)], [12 ** 14] * 2)
        self.same([count_levellings(Order(1), many) for many in range(1, 13)], list(range(1, 13)))
        p = Order.along((2, 0, 3, 1))
        self.same([count_levellings(p, many) for many in (3, 4, 5, 12)], [0, 1, 5, 495])
        self.same([count_levellings(p, many, strict=False) for many in (1, 2, 12)], [1, 5, 1365])
        # As many as the sparse lots of a path of 14 things.
        self.same(count_levellings(Order(14, FENCE14), 2, strict=False), 987)
        self.same(count_levellings(Order(14, FENCE14), 2), 1)

    def test_errors(self):
        for value in strange_manies():
            self.told(BadNumber, {"name": "many"}, count_levellings, Order(15), value)
            self.told(BadNumber, {"name": "many"}, count_levellings, Order(2), value, strict=False)
        for p in (Order(15), Order(40), Order.along(tuple(range(15)))):
            self.told(TooMany, {"name": "things"}, count_levellings, p, 12)
            self.told(TooMany, {"name": "things"}, count_levellings, p, 1, strict=False)


class TurnedTest(Case):

    def test_small_orders(self):
        for size in range(1, 5):
            for arrows in list(every_order(size))[::1 if size < 4 else 7]:
                p = Order(size, arrows)
                for lot in every_lot(size):
                    if own_crossing(size, arrows, lot) is None:
                        for levels in list(product(range(3), repeat=size))[::2]:
                            self.look_at(p, lot, levels)

    def look_at(self, p, lot, levels):
        found = turned_levels(p, lot[::-1], list(levels))
        known = sorted({levels[thing] for thing in lot})
        want = [known[len(known) - 1 - known.index(level)] if thing in lot else level
                for thing, level in enumerate(levels)]
        self.same(found, tuple(want))
        self.same(turned_levels(p, list(lot), found), levels)
        for strict in (True, False):
            self.same(is_levelling(turn(p, lot), 3, found, strict=strict), is_levelling(p, 3, levels, strict=strict))

    def test_known(self):
        p = Order.along((0, 1, 2, 3))
        self.same(turned_levels(p, [2, 1], (0, 3, 8, 9)), (0, 8, 3, 9))
        self.same(turned_levels(p, (0, 1, 2, 3), [0, 3, 8, 9]), (9, 8, 3, 0))
        self.same(turned_levels(p, (3,), [5, 3, 8, 9]), (5, 3, 8, 9))
        # No levelling, and levels greater than any.
        self.same(turned_levels(p, (0, 1, 2), [10 ** 30, 0, 7, 0]), (0, 10 ** 30, 7, 0))
        self.same(turned_levels(Order(40), tuple(range(40)), [0] * 39 + [1]), (1,) * 39 + (0,))

    def test_errors(self):
        p = Order(3, [(0, 1)])
        for value in strange_wholes() + [(), []]:
            self.told(BadLot, {"place": -1}, turned_levels, p, value, None)
        for value in strange_things(3):
            self.told(BadLot, {"place": 1}, turned_levels, p, (2, value), None)
        for value in strange_wholes() + [(), (0, 1), [0, 1, 2, 3]]:
            self.told(BadLevels, {"place": -1}, turned_levels, p, (1, 2), value)
        for value in (-1, True, False, None, 1.0, "1", (1,), [1], -10 ** 30):
            self.told(BadLevels, {"place": 1}, turned_levels, p, [1, 2], (0, value, -1))
            self.told(BadLevels, {"place": 2}, turned_levels, p, [0, 1], [5, 5, value])
        self.told(NotPart, {"thing": 0}, turned_levels, p, [2, 1], (0, 0, 0))
        self.told(NotPart, {"thing": 1}, turned_levels, Order.along((0, 1, 2)), [2, 0], (0, 0, 0))

    def test_arguments_stay(self):
        lot, levels = [2, 1], [0, 3, 8]
        turned_levels(Order.along((0, 1, 2)), lot, levels)
        is_levelling(Order(3), 9, levels)
        self.assertEqual((lot, levels), ([2, 1], [0, 3, 8]))


if __name__ == "__main__":
    unittest.main()
