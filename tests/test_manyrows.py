"""As many rows for another order, and rows on a lot: point 116."""

import random
import unittest

from ordersbehind.behind import Behind
from ordersbehind.carrying import row_carried
from ordersbehind.crossings import common_part, crossing_web
from ordersbehind.errors import BadLot, BadRow, OtherWeb
from ordersbehind.manyrows import rows_for, rows_on
from ordersbehind.orders import Order, web_of
from ordersbehind.turns import is_part_of
from tests.case import Case, strange_things, strange_wholes
from tests.plainly import every_lot, every_row
from tests.test_crossings import own_common, own_ties
from tests.test_unbroken import some_rows

# The lot 0, 1, 2 is a part of the common part. If its stretches were written backwards in each of these rows
# (point 95), thing 4 would be ahead of thing 0 in all of them.
STRETCHED = ((0, 3, 1, 4, 2, 5), (3, 5, 4, 0, 1, 2), (2, 4, 0, 5, 1, 3))


class RowsForTest(Case):

    def look_at(self, rows, most=40):
        p = common_part(rows)
        b = Behind(web_of(p))
        for number in sorted({0, b.many // 3, b.many - 1} | set(range(min(b.many, most)))):
            q = b.at(number)
            found = rows_for([list(row) for row in rows], q)
            self.same((found.__class__, len(found)), (tuple, len(rows)))
            for row in found:
                self.same(row.__class__, tuple)
                self.assertEqual(sorted(row), list(range(p.size)))
            self.assertEqual(own_common(found), q.arrows)
            self.same(rows_for(rows, q), found)

    def test_all_rows_of_three(self):
        rows = every_row(3)
        for one in rows:
            self.look_at((one,))
            for other in rows:
                self.look_at((one, other))
                for third in rows[::2]:
                    self.look_at((one, other, third))

    def test_some_rows(self):
        for rows in some_rows(61):
            self.look_at(rows)

    def test_stretches(self):
        p = common_part(STRETCHED)
        self.same(is_part_of(p, (0, 1, 2)), True)
        backwards = [row_carried((0, 1, 2), row) for row in STRETCHED]
        self.assertTrue(all(row.index(4) < row.index(0) for row in backwards))
        self.assertNotIn((4, 0), p)
        self.look_at(STRETCHED)
        chance = random.Random(62)
        for _ in range(60):
            size = chance.choice((5, 6, 7))
            many = chance.choice((3, 4, 5))
            self.look_at(tuple(tuple(chance.sample(range(size), size)) for _ in range(many)), 12)

    def test_one_row(self):
        self.same(rows_for([(2, 0, 1)], Order.along((1, 2, 0))), ((1, 2, 0),))
        self.same(rows_for([(0,)], Order(1)), ((0,),))

    def test_large(self):
        row = tuple(range(40))
        self.same(rows_for((row,), Order.along(row[::-1])), (row[::-1],))
        self.same(own_common(rows_for((row, row[::-1], row), Order(40))), ())
        q = Order.along(row[:20]) | Order.along(row[:20])
        found = rows_for((row, row[20:] + row[:20]), ~q)
        self.assertEqual(own_common(found), (~q).arrows)

    def test_errors(self):
        for value in strange_wholes() + [(), [], [()], [(0, 1), (0,)], [list(range(41))]]:
            self.told(BadRow, {"place": -1}, rows_for, value, Order(2))
        for value in strange_things(3):
            self.told(BadRow, {"place": 1}, rows_for, [(0, 1, 2), (2, value, 0)], Order(7))
        rows = [(0, 1, 2), (0, 2, 1)]
        self.told(OtherWeb, {"first": -1, "second": -1}, rows_for, rows, Order(4))
        self.told(OtherWeb, {"first": 0, "second": 1}, rows_for, rows, Order(3))
        self.told(OtherWeb, {"first": 1, "second": 2}, rows_for, rows, Order.along((0, 1, 2)))
        self.told(OtherWeb, {"first": 0, "second": 2}, rows_for, rows, Order(3, [(1, 0)]))

    def test_arguments_stay(self):
        rows = [[0, 1, 2], [0, 2, 1]]
        found = rows_for(rows, Order(3, [(1, 0), (2, 0)]))
        on = rows_on(rows, [2, 0])
        self.assertEqual(rows, [[0, 1, 2], [0, 2, 1]])
        rows[0][0], rows[1] = 2, [1]
        self.assertEqual((own_common(found), on), (((1, 0), (2, 0)), ((0, 1), (0, 1))))


class RowsOnTest(Case):

    def test_some_rows(self):
        for rows in some_rows(63):
            for lot in every_lot(len(rows[0])):
                found = rows_on([list(row) for row in rows], list(lot[::-1]))
                want = tuple(tuple(sorted(range(len(lot)), key=lambda i: row.index(lot[i]))) for row in rows)
                self.same(found, want)
                self.same(common_part(found).arrows, common_part(rows).on(lot).arrows)
                self.assertEqual(own_common(found), common_part(rows).on(lot).arrows)
                if len(rows) == 2:
                    self.assertEqual(set(own_ties(*found)), set(crossing_web(rows).on(lot).ties))
                    self.same(crossing_web(found).ties, crossing_web(rows).on(lot).ties)

    def test_large(self):
        row = tuple(range(39, -1, -1))
        self.same(rows_on([row, row[::-1]], [39, 5, 0]), ((2, 1, 0), (0, 1, 2)))

    def test_errors(self):
        for value in strange_wholes() + [(), [], [()], [(0, 1), (0,)], [list(range(41))]]:
            self.told(BadRow, {"place": -1}, rows_on, value, None)
        for value in strange_things(2):
            self.told(BadRow, {"place": 0}, rows_on, [(0, 1), (value, 0)], ())
            self.told(BadLot, {"place": 1}, rows_on, [(0, 1), (1, 0)], (0, value))
        for value in strange_wholes() + [(), []]:
            self.told(BadLot, {"place": -1}, rows_on, [(0, 1)], value)
        self.told(BadLot, {"place": 2}, rows_on, [(0, 1)], [0, 1, 0])


if __name__ == "__main__":
    unittest.main()
