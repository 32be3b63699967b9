"""The plain ways: points 6 and 8, and trying every choice."""

import unittest

from ordersbehind.errors import BadRow, NotClosed, TooMany
from ordersbehind.orders import Order, is_behind
from ordersbehind.plain import all_behind, fits, misfit, turned_by
from ordersbehind.webs import Web
from tests.case import Case, strange_things, strange_wholes
from tests.plainly import FIVE, HAT, MIXED, NET, PATH, Look, every_row, misfits_of, small_webs, some_webs


class AllBehindTest(Case):

    def test_every_choice(self):
        for told in list(small_webs()) + [PATH, FIVE, NET, HAT] + list(some_webs(2, 60, (5, 6))):
            if len(told[1]) <= 9:
                found = all_behind(Web(*told))
                self.assertIs(found.__class__, tuple)
                self.assertTrue(all(isinstance(p, Order) and p.size == told[0] for p in found))
                self.same([p.arrows for p in found], Look(*told).orders())

    def test_bound(self):
        path = [(a, a + 1) for a in range(39)]
        self.same(len(all_behind(Web(40, path[:12]))), 2)
        self.same(len(all_behind(Web(24, [(2 * a, 2 * a + 1) for a in range(12)]))), 4096)
        for ties in (path[:13], path, list(MIXED[1])):
            self.told(TooMany, {"name": "ties"}, all_behind, Web(40, ties))
        self.told(TooMany, {"name": "ties"}, all_behind, Web.full(6))

    def test_contraries(self):
        for told in small_webs():
            found = all_behind(Web(*told))
            self.assertTrue(all(~p in found and is_behind(p, Web(*told)) for p in found))


class RowsTest(Case):

    def test_every_row(self):
        for told in small_webs():
            w, look = Web(*told), Look(*told)
            for row in every_row(told[0]):
                self.look_at(w, look, row)

    def test_larger(self):
        for told in [FIVE, NET, HAT, MIXED] + list(some_webs(3, 40, (5, 6, 7, 8))):
            w, look = Web(*told), Look(*told)
            rows = [tuple(range(told[0])), tuple(range(told[0]))[::-1], tuple(range(1, told[0])) + (0,)]
            for row in rows:
                self.look_at(w, look, row)

    def look_at(self, w, look, row):
        misfits = misfits_of(look, row)
        for passed in (row, list(row)):
            self.same(misfit(w, passed), misfits[0] if misfits else None)
            self.same(fits(w, passed), not misfits)
            if misfits:
                error = self.told(NotClosed, {}, turned_by, w, passed)
                self.assertIn((error.first, error.second, error.third), misfits)
                self.same((error.first, error.second, error.third), min(misfits))
            else:
                p = turned_by(w, passed)
                self.assertIs(p.__class__, Order)
                self.assertTrue(is_behind(p, w))
                self.assertTrue(all(row.index(a) < row.index(b) for a, b in p))

    def test_errors(self):
        w = Web(3, [(0, 1), (1, 2)])
        for call in (misfit, fits, turned_by):
            for value in strange_wholes() + [(), [0, 1], (0, 1, 2, 3)]:
                self.told(BadRow, {"place": -1}, call, w, value)
            for value in strange_things(3):
                self.told(BadRow, {"place": 1}, call, w, [0, value, 0])
            self.told(BadRow, {"place": 2}, call, w, (0, 1, 0))

    def test_row_unchanged(self):
        row = [2, 0, 1]
        misfit(Web(3), row), fits(Web(3), row), turned_by(Web(3), row)
        self.assertEqual(row, [2, 0, 1])

    def test_forty_things(self):
        row = list(range(40))
        self.same(misfit(Web.full(40), row), None)
        self.same(misfit(Web(40, [(0, 38), (38, 39)]), row), (0, 38, 39))
        self.assertTrue(turned_by(Web.full(40), row) == Order.along(row))


if __name__ == "__main__":
    unittest.main()
