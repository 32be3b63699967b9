"""Rows in line with an order: points 91 to 94."""

import random
import types
import unittest
from math import factorial

from ordersbehind.behind import Behind
from ordersbehind.errors import BadRow, BadSizes, NotInLine, TooMany
from ordersbehind.lines import count_by_wood, count_lines, in_line, jump_counts, jumps, lines_of, words_below
from ordersbehind.orders import Order
from ordersbehind.webs import Web
from tests.case import Case, strange_things, strange_wholes
from tests.plainly import HAT, MIXED, PATH, every_order, every_row, nested_webs, webs_with_orders

# Orders of ten things with just so many rows in line.
JUST_5000 = ((0, 3), (2, 3), (4, 5), (4, 6), (5, 6), (1, 7), (2, 7), (4, 7), (5, 7), (6, 7), (0, 8), (1, 8), (2, 8),
             (4, 8), (0, 9), (1, 9), (2, 9), (4, 9), (5, 9), (6, 9))
JUST_5001 = ((2, 3), (2, 4), (3, 4), (2, 6), (3, 6), (4, 6), (0, 7), (1, 7), (2, 7), (3, 7), (0, 8), (1, 8), (2, 8),
             (3, 8), (4, 8), (5, 8), (0, 9), (2, 9), (3, 9), (4, 9))
FENCE14 = tuple((a, a + 1) if a % 2 == 0 else (a + 1, a) for a in range(13))


def own_lines(size, arrows):
    """All rows in line, ascending."""
    return [row for row in every_row(size) if all(row.index(a) < row.index(b) for a, b in arrows)]


def own_jumps(row, arrows):
    return sum((a, b) not in arrows and (b, a) not in arrows for a, b in zip(row, row[1:]))


def own_words(arrows, left):
    """The number of words that have each thing as often as left says, letter by letter."""
    if not any(left):
        return 1
    total = 0
    for thing, many in enumerate(left):
        if many and not any(left[a] for a, b in arrows if b == thing):
            total += own_words(arrows, left[:thing] + (many - 1,) + left[thing + 1:])
    return total


def small_orders():
    for size in range(1, 5):
        for arrows in every_order(size):
            yield size, arrows
    for told, orders in webs_with_orders():
        if 4 < told[0] <= 6:
            yield told[0], orders[len(orders) // 2]


def own_path(size):
    return Web(size, [(a, a + 1) for a in range(size - 1)])


class RowsTest(Case):

    def test_small_orders(self):
        for size, arrows in small_orders():
            p, lines = Order(size, arrows), own_lines(size, arrows)
            self.same(list(lines_of(p)), lines)
            self.same(count_lines(p), len(lines))
            many = [0] * size
            for row in every_row(size):
                self.same(in_line(p, list(row)), row in lines)
                if row in lines:
                    self.same(jumps(p, list(row)), own_jumps(row, arrows))
                    many[own_jumps(row, arrows)] += 1
                else:
                    bad = min((a, b) for a, b in arrows if row.index(b) < row.index(a))
                    self.told(NotInLine, {"first": bad[0], "second": bad[1]}, jumps, p, row)
            self.same(jump_counts(p), tuple(many))

    def test_the_same_for_all_orders_behind_a_web(self):
        for told, orders in webs_with_orders():
            b = Behind(Web(*told))
            p = Order(told[0], orders[0])
            many, spread = count_lines(p), jump_counts(p)
            self.same((len(spread), sum(spread)), (told[0], many))
            self.same(count_by_wood(b), many)
            for arrows in orders[::2]:
                q = Order(told[0], arrows)
                self.same((count_lines(q), jump_counts(q)), (many, spread))

    def test_large(self):
        self.same((count_lines(Order(14)), count_lines(Order(1))), (factorial(14), 1))
        self.same(count_lines(Order.along(tuple(range(13, -1, -1)))), 1)
        self.same(jump_counts(Order(14)), (0,) * 13 + (factorial(14),))
        self.same(jump_counts(Order.along(tuple(range(14)))), (1,) + (0,) * 13)
        self.same(jump_counts(Order(1)), (1,))
        # The alternating rows of 14 things.
        p = Order(14, FENCE14)
        self.same((count_lines(p), sum(jump_counts(p))), (199360981, 199360981))
        self.same((in_line(Order(40), tuple(range(40))), jumps(Order(40), list(range(40)))), (True, 39))
        p = Order.along(tuple(range(40)))
        self.same((in_line(p, tuple(range(40))), in_line(p, tuple(range(39, -1, -1)))), (True, False))
        self.same(jumps(p, tuple(range(40))), 0)

    def test_pieces(self):
        chance = random.Random(94)
        orders = [Order(size, arrows) for size, arrows in small_orders()]
        for _ in range(40):
            one, other = chance.choice(orders), chance.choice(orders)
            p = one | other
            mixed = factorial(p.size) // (factorial(one.size) * factorial(other.size))
            q = p.renamed(chance.sample(range(p.size), p.size))
            self.same(count_lines(q), count_lines(one) * count_lines(other) * mixed)
            self.same(count_lines(one & other), count_lines(one) * count_lines(other))

    def test_fourteen_things(self):
        star = Order(14, [(0, thing) for thing in range(1, 14)])
        self.same((count_lines(star), count_lines(~star)), (factorial(13), factorial(13)))
        p = Order(14, [(0, 1)])
        self.same(count_lines(p), factorial(14) // 2)
        self.same(count_lines(Order(7) & Order(7)), factorial(7) ** 2)

    def test_rows_of_larger_orders(self):
        # Four things, above them six in three pairs, above them four in two pairs.
        p = Order(4) & (Order.along((0, 1)) | Order.along((0, 1)) | Order.along((0, 1)))
        p = p & (Order.along((1, 0)) | Order.along((0, 1)))
        self.same((p.size, count_lines(p)), (14, 24 * 90 * 6))
        q = Order(14, list(p.arrows) + [(0, 1), (1, 2), (2, 3), (0, 2), (0, 3), (1, 3)])
        found = list(lines_of(q))
        self.same((len(found), len(set(found)), found == sorted(found)), (540, 540, True))
        self.same(all(in_line(q, row) for row in found), True)

    def test_generator(self):
        p = Order(3, [(2, 0)])
        self.assertIsInstance(lines_of(p), types.GeneratorType)
        self.same(list(lines_of(p)), [(1, 2, 0), (2, 0, 1), (2, 1, 0)])
        self.same(list(lines_of(p)), list(lines_of(p)))

    def test_bounds(self):
        p, q = Order(10, JUST_5000), Order(10, JUST_5001)
        self.same((count_lines(p), count_lines(q)), (5000, 5001))
        found = list(lines_of(p))
        self.same((len(found), len(set(found)), found == sorted(found)), (5000, 5000, True))
        steps = lines_of(q)
        self.told(TooMany, {"name": "rows"}, next, steps)
        steps = lines_of(Order(14))
        self.told(TooMany, {"name": "rows"}, next, steps)
        for p in (Order(15), Order.along(tuple(range(15))), Order(40), Order.along(tuple(range(40)))):
            steps = lines_of(p)
            self.told(TooMany, {"name": "things"}, next, steps)
            self.told(TooMany, {"name": "things"}, count_lines, p)
            self.told(TooMany, {"name": "things"}, jump_counts, p)

    def test_errors(self):
        p = Order(4, [(0, 1), (2, 1), (2, 3)])
        for call in (in_line, jumps):
            for value in strange_wholes() + [(), (0, 1, 2), [0, 1, 2, 3, 4]]:
                self.told(BadRow, {"place": -1}, call, p, value)
            for value in strange_things(4):
                self.told(BadRow, {"place": 1}, call, p, (2, value, 0, 1))
            self.told(BadRow, {"place": 3}, call, p, [3, 2, 0, 2])
        self.told(NotInLine, {"first": 0, "second": 1}, jumps, p, (3, 2, 1, 0))
        self.told(NotInLine, {"first": 2, "second": 1}, jumps, p, [0, 1, 2, 3])
        self.told(NotInLine, {"first": 2, "second": 3}, jumps, p, [0, 3, 2, 1])

    def test_arguments_stay(self):
        p, row, sizes = Order(3, [(2, 0)]), [2, 0, 1], [1, 2, 3]
        in_line(p, row), jumps(p, row), words_below(p, sizes)
        self.assertEqual((row, sizes), ([2, 0, 1], [1, 2, 3]))


class WordsTest(Case):

    def test_against_own_words(self):
        for size, arrows in small_orders():
            p = Order(size, arrows)
            mixed = tuple(1 + (thing * 7) % 3 for thing in range(size))
            for sizes in [(1,) * size, (2,) * size, tuple(range(1, size + 1)), mixed]:
                if sum(sizes) <= 9:
                    self.same(words_below(p, list(sizes)), own_words(arrows, sizes))
            self.same(words_below(p, (1,) * size), count_lines(p))

    def test_known(self):
        self.same(words_below(Order(2), [7, 7]), 3432)
        self.same(words_below(Order(2, [(1, 0)]), (7, 7)), 1)
        self.same(words_below(Order(1), (14,)), 1)
        self.same(words_below(Order(14), [1] * 14), factorial(14))
        self.same(words_below(Order(3, [(0, 1)]), [2, 3, 2]), 21)
        # The two orders behind a firm quotient.
        p = Order(4, [(0, 1), (2, 1), (2, 3)])
        self.same(words_below(p, (1, 2, 3, 4)), words_below(~p, [1, 2, 3, 4]))

    def test_pieces(self):
        """Words of things that no arrows lead from one to the other are mixed in all ways."""
        self.same(words_below(Order(4, [(0, 1), (2, 3)]), (3, 4, 4, 3)), factorial(14) // factorial(7) ** 2)
        self.same(words_below(Order(4, [(0, 3), (2, 1)]), (3, 4, 4, 3)), factorial(14) // factorial(6) // factorial(8))
        self.same(words_below(Order(3), (2, 5, 7)), factorial(14) // (2 * factorial(5) * factorial(7)))
        p = Order(4, [(0, 1), (2, 1), (2, 3)])
        for sizes in ((2, 1, 1, 3), (1, 2, 2, 1), (3, 1, 1, 1)):
            mixed = factorial(sum(sizes) + 5) // (factorial(sum(sizes)) * factorial(5))
            self.same(words_below(p | Order.along((1, 0)), sizes + (3, 2)), own_words(p.arrows, sizes) * mixed)

    def test_errors(self):
        p = Order(3, [(0, 1)])
        for value in strange_wholes() + [(), (1, 1), [1, 1, 1, 1]]:
            self.told(BadSizes, {"place": -1}, words_below, p, value)
        for value in (0, -1, True, False, None, 1.0, "1", (1,), [1]):
            self.told(BadSizes, {"place": 1}, words_below, p, (20, value, 0))
            self.told(BadSizes, {"place": 2}, words_below, p, [1, 1, value])
        self.told(TooMany, {"name": "things"}, words_below, p, (5, 5, 5))
        self.told(TooMany, {"name": "things"}, words_below, p, (1, 1, 10 ** 40))
        self.same(words_below(p, (5, 5, 4)), own_words(((0, 1),), (5, 5, 4)))
        self.told(TooMany, {"name": "things"}, words_below, Order(15), (1,) * 15)
        self.told(BadSizes, {"place": 14}, words_below, Order(15), (1,) * 14 + (0,))


class ByWoodTest(Case):

    def test_nested(self):
        for told in nested_webs(28, 40, 11):
            b = Behind(Web(*told))
            self.same(count_by_wood(b), count_lines(b.at(0)))
            self.same(count_by_wood(b), count_lines(b.at(b.many - 1)))

    def test_large(self):
        self.same(count_by_wood(Behind(Web(40))), factorial(40))
        self.same(count_by_wood(Behind(Web.full(40))), 1)
        self.same(count_by_wood(Behind(Web(1))), 1)
        self.same(count_by_wood(Behind(Web.full(20) | Web.full(20))), factorial(40) // factorial(20) ** 2)
        self.same(count_by_wood(Behind(Web(20) & Web(20))), factorial(20) ** 2)
        self.same(count_by_wood(Behind((Web(3) & Web(9)) | Web(*PATH) | Web(20))),
                  6 * factorial(9) * 5 * factorial(36) // (factorial(12) * factorial(4)))

    def test_firm_knots(self):
        self.same(count_by_wood(Behind(own_path(14))), 199360981)
        for size in (15, 40):
            self.told(TooMany, {"name": "things"}, count_by_wood, Behind(own_path(size)))
        # The knot has four children and 14 or 15 things.
        for many in (11, 12):
            w = Web(many + 3, [(a, many) for a in range(many)] + [(many, many + 1), (many + 1, many + 2)])
            b = Behind(w)
            if many == 11:
                self.same(count_by_wood(b), count_lines(b.at(0)))
            else:
                self.told(TooMany, {"name": "things"}, count_by_wood, b)
                self.told(TooMany, {"name": "things"}, count_by_wood, Behind(w & Web(5)))
        # A knot that is not firm may have any number of things around small firm ones.
        w = own_path(14) & own_path(14) & Web(12)
        self.same(count_by_wood(Behind(w)), 199360981 ** 2 * factorial(12))

    def test_known(self):
        self.same([count_by_wood(Behind(Web(*told))) for told in (PATH, HAT, MIXED)], [5, 5, 32])


if __name__ == "__main__":
    unittest.main()
