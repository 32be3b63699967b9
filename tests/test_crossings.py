"""Several rows, crossing webs and common parts: points 106, 107 and 111."""

import random
import unittest

from ordersbehind.crossings import (backward_rows, common_part, contrary_rows, crossing_web, fits_both, is_drawing,
                                    rows_of, turned_rows)
from ordersbehind.errors import BadRow
from ordersbehind.orders import Order
from ordersbehind.webs import Web
from tests.case import Case, strange_things, strange_wholes
from tests.plainly import FIVE, HAT, PATH, Look, every_row, middling_webs, misfits_of, small_webs


def own_ties(one, other):
    """The ties of the crossing web of two rows."""
    return tuple((a, b) for b in range(len(one)) for a in range(b)
                 if (one.index(a) < one.index(b)) != (other.index(a) < other.index(b)))


def own_common(rows):
    things = range(len(rows[0]))
    return tuple((a, b) for a in things for b in things
                 if a != b and all(row.index(a) < row.index(b) for row in rows))


def pairs_of_rows():
    """All pairs of rows of at most three things, and some of more things."""
    for size in (1, 2, 3):
        yield from ((one, other) for one in every_row(size) for other in every_row(size))
    chance = random.Random(31)
    for size in (4, 5, 6, 9, 40):
        for _ in range(40):
            yield tuple(chance.sample(range(size), size)), tuple(chance.sample(range(size), size))


class RefusalTest(Case):

    def calls(self):
        return (rows_of, common_part, crossing_web, turned_rows, backward_rows, contrary_rows)

    def test_whole(self):
        for call in self.calls():
            for value in strange_wholes() + [(), [], iter([(0, 1), (1, 0)])]:
                self.told(BadRow, {"place": -1}, call, value)

    def test_first_entry(self):
        for call in self.calls():
            for value in strange_wholes() + [(), [], list(range(41)), (0,) * 41]:
                self.told(BadRow, {"place": -1}, call, [value, (0, 0)])
                self.told(BadRow, {"place": -1}, call, (value,))
            for value in strange_things(3):
                self.told(BadRow, {"place": 1}, call, ((2, value, 0), None))
            self.told(BadRow, {"place": 2}, call, [[2, 0, 2]])
            self.told(BadRow, {"place": 2}, call, ((1, 2, 3), (0, 0, 0)))

    def test_later_entries(self):
        for call in self.calls():
            for value in strange_wholes() + [(), (0, 1), [0, 1, 2, 3], (0, 1, 2, 2)]:
                self.told(BadRow, {"place": -1}, call, [(2, 0, 1), value])
                self.told(BadRow, {"place": -1}, call, ((2, 0, 1), [0, 1, 2], value, (0, 0, 0)))
            for value in strange_things(3):
                self.told(BadRow, {"place": 1}, call, ((2, 0, 1), (2, value, 0)))
            self.told(BadRow, {"place": 2}, call, [(2, 0, 1), (1, 0, 1), (0, 0)])

    def test_exactly_two(self):
        for call in self.calls()[2:]:
            self.told(BadRow, {"place": -1}, call, [(0, 1)])
            self.told(BadRow, {"place": -1}, call, ((0, 1), (1, 0), (0, 1)))
            # A bad row in a wrong number of them comes first.
            self.told(BadRow, {"place": 1}, call, ((0, 1), (1, 0), (1, 1)))
            self.told(BadRow, {"place": 0}, call, [(2, 1)])

    def test_rows(self):
        self.same(rows_of([[1, 0], (0, 1), [1, 0]]), ((1, 0), (0, 1), (1, 0)))
        self.same(rows_of(([0],)), ((0,),))
        self.same(len(rows_of([list(range(40))] * 100)), 100)


class CrossingTest(Case):

    def test_every_pair(self):
        for one, other in pairs_of_rows():
            w = crossing_web([list(one), other])
            self.assertIs(w.__class__, Web)
            self.same((w.size, w.ties), (len(one), tuple(sorted(own_ties(one, other)))))
            p = common_part((one, list(other)))
            self.assertIs(p.__class__, Order)
            self.same((p.size, p.arrows), (len(one), own_common((one, other))))
            self.same(is_drawing(w, (list(one), other)), True)
            if len(one) < 7:
                self.same((fits_both(w, list(one)), fits_both(w, other)), (True, True))

    def test_common_part_of_many(self):
        chance = random.Random(32)
        for size in (1, 2, 4, 5, 12):
            for many in (1, 3, 4, 7):
                rows = [tuple(chance.sample(range(size), size)) for _ in range(many)]
                self.same(common_part(rows).arrows, own_common(rows))
        self.same(common_part([(2, 0, 1)]).arrows, Order.along((2, 0, 1)).arrows)

    def test_other_pairs(self):
        for one, other in pairs_of_rows():
            w = crossing_web((one, other))
            self.same(turned_rows([list(one), other]), (other, one))
            self.same(backward_rows((one, list(other))), (one[::-1], other[::-1]))
            self.same(contrary_rows([one, other]), (one, other[::-1]))
            self.same((crossing_web(turned_rows((one, other))) == w, crossing_web(backward_rows((one, other))) == w),
                      (True, True))
            self.same(crossing_web(contrary_rows((one, other))) == ~w, True)

    def test_large(self):
        row = tuple(range(40))
        self.assertTrue(crossing_web((row, row)) == Web(40))
        self.assertTrue(crossing_web((row, row[::-1])) == Web.full(40))
        self.same(common_part((row, row[::-1])).arrows, ())


class IsDrawingTest(Case):

    def test_small_webs(self):
        for told in small_webs():
            w = Web(*told)
            if told[0] < 4:
                for one in every_row(told[0]):
                    for other in every_row(told[0]):
                        self.same(is_drawing(w, [one, list(other)]), set(own_ties(one, other)) == set(told[1]))

    def test_other_values(self):
        w = Web(4, [(0, 1), (1, 2), (2, 3)])
        good = ((0, 2, 1, 3), (1, 0, 3, 2))
        self.same(is_drawing(w, good), True)
        for value in strange_wholes() + [(), [], good[:1], good + good[:1], [good], (good[0], None), (None, good[1]),
                                         (good[0], good[0]), ((0, 1), (1, 0)), (0, 1), w, iter(good),
                                         (good[0], (1, 0, 3)), (good[0], (1, 0, 3, 3)), (good[0], (1, 0, 3, 4))]:
            self.same(is_drawing(w, value), False)
        for value in strange_things(4):
            self.same(is_drawing(w, ((0, value, 1, 3), good[1])), False)
            self.same(is_drawing(w, (good[0], (1, 0, 3, value))), False)
        self.same(is_drawing(Web(4), good), False)
        self.same((is_drawing(Web(5, w.ties), good), is_drawing(Web(1), [[0], [0]])), (False, True))

    def test_argument_stays(self):
        rows = [[0, 2, 1, 3], [1, 0, 3, 2]]
        is_drawing(Web(*PATH), rows), crossing_web(rows), common_part(rows), turned_rows(rows), contrary_rows(rows)
        found = rows_of(rows)
        self.assertEqual(rows, [[0, 2, 1, 3], [1, 0, 3, 2]])
        rows[0][0] = 9
        self.same(found, ((0, 2, 1, 3), (1, 0, 3, 2)))


class FitsBothTest(Case):

    def test_every_row(self):
        for told in list(middling_webs())[::4] + [PATH, HAT, FIVE]:
            if told[0] <= 5:
                w, look = Web(*told), Look(*told)
                for row in every_row(told[0]):
                    want = not misfits_of(look, row) and not misfits_of(look.contrary(), row)
                    self.same(fits_both(w, list(row)), want)

    def test_errors(self):
        w = Web(*PATH)
        for value in strange_wholes() + [(), (0, 1, 2), [0, 1, 2, 3, 4]]:
            self.told(BadRow, {"place": -1}, fits_both, w, value)
        for value in strange_things(4):
            self.told(BadRow, {"place": 1}, fits_both, w, (2, value, 0, 1))
        self.told(BadRow, {"place": 3}, fits_both, w, [3, 2, 0, 2])


if __name__ == "__main__":
    unittest.main()
