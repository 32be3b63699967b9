"""Rows of crowds: points 124 to 131."""

import types
import unittest
from functools import lru_cache
from itertools import permutations
from math import factorial

from ordersbehind.behind import Behind
from ordersbehind.chains import is_chain
from ordersbehind.colourwood import count_colours
from ordersbehind.counts import count_orders
from ordersbehind.crowdrows import (CrowdRows, both_ends, count_both_ends, count_first, first_bar, first_crowd,
                                    is_crowd_row)
from ordersbehind.crowds import crowds
from ordersbehind.drawings import Drawings
from ordersbehind.errors import BadCrowds, BadLot, BadNumber, NoSpans, NotBehind, NotCrowd, TooMany
from ordersbehind.flips import distance
from ordersbehind.orders import Order, is_behind
from ordersbehind.spans import first_come, is_spans, span_web, spans_of
from ordersbehind.walks import flips_of, walk
from ordersbehind.webs import Web
from ordersbehind.wood import Wood
from tests.case import Case, strange_things, strange_wholes
from tests.plainly import FIVE, PATH, Look, every_web, small_webs
from tests.test_crowds import joined, own_crowds
from tests.test_spans import THREE_PATHS, SpansOfTest, own_web, some_spans, span_webs

FOUR = (4, ((0, 1), (0, 3), (1, 2), (2, 3)))
STAR = (4, ((0, 1), (0, 2), (0, 3)))


def own_is_row(size, row):
    for thing in range(size):
        at = [place for place, crowd in enumerate(row) if thing in crowd]
        if at[-1] - at[0] + 1 != len(at):
            return False
    return True


@lru_cache(maxsize=None)
def own_rows(size, ties):
    """All rows of crowds, found by trying every row of the crowds."""
    return [row for row in permutations(own_crowds(Look(size, ties))) if own_is_row(size, row)]


def own_arrows(size, row):
    """The arrows of the order that a row of crowds makes."""
    return tuple((x, y) for x in range(size) for y in range(size)
                 if max(at for at, crowd in enumerate(row) if x in crowd)
                 < min(at for at, crowd in enumerate(row) if y in crowd))


def few_crowds():
    """Webs of spans of at most six crowds."""
    return [told for told in span_webs() if len(own_crowds(Look(*told))) <= 6]


class EveryRowTest(Case):

    def test_webs_of_spans(self):
        for told in few_crowds():
            w, r, rows = Web(*told), CrowdRows(Web(*told)), own_rows(*told)
            self.same(r.many, len(rows))
            self.same(r.many, count_orders(~w))
            found = list(r.by_number())
            self.assertEqual(sorted(found), sorted(rows))
            for number, row in enumerate(found):
                if number < 30 or number == r.many - 1:
                    self.look_at(r, number, row)

    def look_at(self, r, number, row):
        self.same(r.at(number), row)
        self.same((row.__class__, {crowd.__class__ for crowd in row}), (tuple, {tuple}))
        self.same(r.number_of(row), number)
        self.same(r.number_of([list(crowd)[::-1] for crowd in row]), number)
        p = r.order_of_crowds(row)
        self.same((p.size, p.arrows), (r.web.size, own_arrows(r.web.size, row)))
        self.same(r.free_part.number_of(p), number)
        self.same(r.crowd_row(p), row)
        self.same(r.crowd_row(~p), row[::-1])
        self.same((row[0], row[-1]), (p.bottoms(), p.tops()))
        self.same(is_crowd_row(r.web, row), True)
        self.same(is_crowd_row(r.web, [list(crowd[1:] + crowd[:1]) for crowd in row]), True)
        for place in range(1, len(row)):
            self.assertTrue(set(row[place]) - {thing for crowd in row[:place] for thing in crowd})

    def test_every_row_of_the_crowds(self):
        for told in small_webs():
            w, rows = Web(*told), own_rows(*told)
            self.same(bool(rows), is_spans(w))
            for row in permutations(own_crowds(Look(*told))):
                self.same(is_crowd_row(w, row), row in rows)
        for told in list(every_web(5))[::7]:
            for row in permutations(own_crowds(Look(*told))):
                self.same(is_crowd_row(Web(*told), list(row)), row in own_rows(*told))

    def test_attributes(self):
        w = Web(*STAR)
        r = CrowdRows(w)
        self.assertIs(r.web, w)
        self.assertTrue(r.free_part == Behind(~w))
        self.same(r.crowds_told, ((0, 1), (0, 2), (0, 3)))
        self.assertIsInstance(vars(CrowdRows)["many"], property)

    def test_number_of_crowds(self):
        for told in few_crowds():
            w, many = Web(*told), len(own_crowds(Look(*told)))
            self.assertLessEqual(many, w.size)
            self.assertEqual((many == w.size, many == 1), (w.ties == (), (~w).ties == ()))
            rows = len(own_rows(*told))
            self.assertEqual(rows == 1, (~w).ties == ())
            self.assertEqual(rows == 2, count_colours(Wood(~w)) == 1)
            if rows == 2:
                self.assertEqual(own_rows(*told)[0], own_rows(*told)[1][::-1])

    def test_spans(self):
        """The order in which spans come, in its row of crowds; the spans of the row with the number 0."""
        for spans in some_spans(91, 60, 7):
            w, p = span_web(spans), first_come(spans)
            r = CrowdRows(w)
            row = r.crowd_row(p)
            for place, crowd in enumerate(row):
                for other in row[place + 1:]:
                    self.assertTrue(any(spans[x][1] < spans[y][0] for x in crowd for y in other))
            first = r.at(0)
            want = tuple((min(at for at, crowd in enumerate(first) if thing in crowd),
                          max(at for at, crowd in enumerate(first) if thing in crowd)) for thing in range(w.size))
            self.same(spans_of(w), want)
            self.same(r.number_of(first), 0)

    def test_flips(self):
        for told in few_crowds():
            b = Behind(~Web(*told))
            r = CrowdRows(Web(*told))
            for number in sorted({0, r.many // 2, r.many - 1}):
                p, q = b.at(0), r.order_of_crowds(r.at(number))
                steps = walk(b, p, q)
                self.same(len(flips_of(b, steps)), distance(b, p, q))
                rows = [r.crowd_row(order) for order in steps]
                self.same([is_crowd_row(r.web, row) for row in rows], [True] * len(rows))
                self.same((rows[0], rows[-1]), (r.at(0), r.at(number)))

    def test_drawings(self):
        for told in few_crowds():
            w = Web(*told)
            if count_orders(w) > 0:
                self.same(Drawings(w).many, count_orders(w) * CrowdRows(w).many)

    def test_large(self):
        r = CrowdRows(Web(40))
        self.same(r.many, factorial(40))
        row = tuple((thing,) for thing in range(39, -1, -1))
        self.same((r.number_of(row), r.at(factorial(40) - 1)), (factorial(40) - 1, row))
        self.same(CrowdRows(Web.full(40)).at(0), (tuple(range(40)),))
        path = Web(40, [(a, a + 1) for a in range(39)])
        self.same((CrowdRows(path).many, CrowdRows(path).at(0)), (2, path.ties))
        self.same(CrowdRows(Web(1)).at(0), (((0,),)))


class RefusedTest(Case):

    def test_no_spans(self):
        look = SpansOfTest()
        for told in list(every_web(5))[::9] + [FIVE, FOUR, THREE_PATHS]:
            w = Web(*told)
            if not is_spans(w):
                look.look_at_refusal(w, CrowdRows)
        # More than 500 crowds.
        self.told(NoSpans, {"four": (0, 3, 1, 4), "ring": ()}, CrowdRows, joined(13, 3))

    def test_numbers(self):
        r = CrowdRows(Web(*STAR))
        for value in (-1, 6, True, False, None, 0.0, "0", (0,), 10 ** 40):
            self.told(BadNumber, {"name": "number"}, r.at, value)

    def test_not_behind(self):
        r = CrowdRows(Web(*PATH))
        self.told(NotBehind, {"first": -1, "second": -1}, r.crowd_row, Order(5))
        self.told(NotBehind, {"first": 0, "second": 2}, r.crowd_row, Order(4))
        self.told(NotBehind, {"first": 0, "second": 1}, r.crowd_row, Behind(r.web).at(0))

    def test_bad_crowds(self):
        r = CrowdRows(Web(*PATH))
        row = ((0, 1), (1, 2), (2, 3))
        for call in (r.order_of_crowds, r.number_of):
            for value in strange_wholes() + [(), [], row[:2], row + ((0, 1),)]:
                self.told(BadCrowds, {"place": -1}, call, value)
            bad = [(0, 2), (0,), (), (0, 1, 2), [1, 1], (0, 0, 1), (0, 4), (-1, 0), (True, 0), (1, False), None, 5,
                   "01", {0, 1}, (1.0, 0), ((0,), 1), {0: 1, 1: 0}]
            for value in bad:
                self.told(BadCrowds, {"place": 0}, call, (value, (1, 2), value))
                self.told(BadCrowds, {"place": 1}, call, [(1, 0), value, (0, 1)])
                # Entry 2 is bad, though the gap would be seen at entry 2 too, and entry 1 is a crowd.
                self.told(BadCrowds, {"place": 2}, call, [(2, 3), (1, 0), value])
            self.told(BadCrowds, {"place": 1}, call, ((0, 1), [1, 0], (2, 3)))
            self.told(BadCrowds, {"place": 2}, call, ((0, 1), (2, 3), (1, 0)))
            self.told(BadCrowds, {"place": 2}, call, ((0, 1), (2, 3), (1, 2)))
            self.told(BadCrowds, {"place": 2}, call, ((2, 1), (3, 2), (0, 1)))
        # A lacking crowd comes first, whatever gap stands ahead of it.
        r = CrowdRows(Web(6, [(0, 1), (1, 2), (2, 3), (3, 4), (4, 5)]))
        row = [(0, 1), (2, 3), (1, 2), (3, 4), (4, 5)]
        self.told(BadCrowds, {"place": 2}, r.number_of, row)
        self.told(BadCrowds, {"place": 4}, r.number_of, row[:4] + [(3, 5)])
        self.told(BadCrowds, {"place": 4}, r.number_of, row[:4] + [(1, 0)])
        self.told(BadCrowds, {"place": 3}, r.number_of, [(0, 1), (1, 2), (4, 5), (3, 2), (4, 3)])

    def test_gaps_of_every_row(self):
        for told in few_crowds():
            if len(own_crowds(Look(*told))) <= 5:
                r = CrowdRows(Web(*told))
                for row in permutations(own_crowds(Look(*told))):
                    gaps = [place for place in range(len(row))
                            if any(thing not in row[place - 1] and any(thing in crowd for crowd in row[:place])
                                   for thing in row[place]) and place > 0]
                    if gaps:
                        self.told(BadCrowds, {"place": gaps[0]}, r.order_of_crowds, row)
                    else:
                        self.same(row in own_rows(*told), True)

    def test_is_crowd_row(self):
        w = Web(*PATH)
        row = ((0, 1), (1, 2), (2, 3))
        self.same([is_crowd_row(w, value) for value in (row, list(row[::-1]), [[1, 0], (2, 1), [3, 2]])], [True] * 3)
        for value in strange_wholes() + [(), [], row[:2], row + row[:1], (row[1], row[0], row[2]), w, None]:
            self.same(is_crowd_row(w, value), False)
        for value in ((0, 2), (0,), (), [1, 1], (True, 0), None, 5, "01", {0, 1}, (0, 4), (0, 1.0)):
            self.same(is_crowd_row(w, (value, (1, 2), (2, 3))), False)
        self.same(is_crowd_row(Web(*FOUR), ((0, 1), (1, 2), (2, 3), (0, 3))), False)
        self.same(is_crowd_row(Web(*FIVE), FIVE[1]), False)

    def test_many_crowds(self):
        for w in (joined(13, 3), joined(3, 5) & Web(4) | Web(1), joined(20, 2)):
            for value in ((), [(0,)], [tuple(range(0, w.size, 3))] * 40, [(0, 1)] * 1594323, None):
                self.same(is_crowd_row(w, value), False)

    def test_bound(self):
        r = CrowdRows(Web(7))
        self.same(r.many, 5040)
        steps = r.by_number()
        self.assertIsInstance(steps, types.GeneratorType)
        self.told(TooMany, {"name": "rows"}, next, steps)
        steps = CrowdRows(Web(6) | Web.full(5)).by_number()
        self.told(TooMany, {"name": "rows"}, next, steps)
        # 2 * 2 * 2 * 4! * 4! = 4,608 and 5,040 are the nearest to the bound.
        w = (Web(4) & Web(1)) | Web(3)
        r = CrowdRows(w)
        self.same((r.many, len(set(r.by_number()))), (576, 576))
        w = (((((w & Web(1)) | Web(1)) & Web(1)) | Web(1)) & Web(1)) | Web(1)
        r = CrowdRows(w)
        self.same((r.many, len(set(r.by_number()))), (4608, 4608))
        self.same(list(CrowdRows(Web(*STAR)).by_number()), list(CrowdRows(Web(*STAR)).by_number()))


class EndsTest(Case):

    def test_against_all_rows(self):
        for told in few_crowds():
            w, lots = Web(*told), own_crowds(Look(*told))
            rows = list(CrowdRows(w).by_number())
            firsts, ends = 0, 0
            for crowd in lots:
                begun = [row for row in rows if row[0] == crowd]
                self.same(first_crowd(w, list(crowd)[::-1]), begun[0] if begun else None)
                self.same(count_first(w, crowd[::-1]), len(begun))
                self.look_at_bar(w, crowd, begun)
                firsts += len(begun)
                for other in lots:
                    both = [row for row in begun if row[-1] == other]
                    self.same(both_ends(w, list(crowd), other[::-1]), both[0] if both else None)
                    self.same(count_both_ends(w, crowd, list(other)), len(both))
                    ends += len(both) if crowd != other else 0
            self.assertEqual(firsts, len(rows))
            if len(lots) > 1:
                self.assertEqual(ends, len(rows))
                self.same([both_ends(w, crowd, crowd) for crowd in lots], [None] * len(lots))
            else:
                self.same((both_ends(w, lots[0], lots[0]), count_both_ends(w, lots[0], lots[0])), (lots, 1))

    def look_at_bar(self, w, crowd, begun):
        bar = first_bar(w, list(crowd))
        if begun:
            self.assertIsNone(bar)
            # The number is by point 127, too.
            many = count_orders(~w)
            for knot in Wood(~w).knots:
                if set(knot.lot) & set(crowd):
                    many //= {"free": 1, "firm": 2, "full": len(knot.children)}[knot.kind]
            self.assertEqual(len(begun), many)
        else:
            self.same((bar.__class__, is_chain(~w, bar)), (tuple, True))
            self.assertTrue(bar[0][1] in crowd and bar[-1][0] in crowd)

    def test_large(self):
        path = Web(40, [(a, a + 1) for a in range(39)])
        self.same((first_crowd(path, [1, 0]), first_crowd(path, (3, 4))), (path.ties, None))
        self.same((count_both_ends(path, (38, 39), (0, 1)), count_first(path, (5, 6))), (1, 0))
        self.same(count_first(Web(40), [7]), factorial(39))
        self.same(count_both_ends(Web(40), [7], (9,)), factorial(38))

    def test_errors(self):
        w = Web(*PATH)
        for call in (first_crowd, first_bar, count_first):
            self.refused(lambda lot, call=call: call(w, lot))
            self.told(NotCrowd, {}, call, Web(*FOUR), (0,))
            self.told(NotCrowd, {}, call, Web(*FIVE), (0, 2))
            self.told(NoSpans, {"four": (0, 1, 2, 3), "ring": ()}, call, Web(*FOUR), [3, 0])
            self.told(NoSpans, {"four": ()}, call, Web(*THREE_PATHS), (0, 1))
            self.told(NoSpans, {"four": (0, 3, 1, 4)}, call, joined(13, 3), tuple(range(0, 39, 3)))
        for call in (both_ends, count_both_ends):
            self.refused(lambda lot, call=call: call(w, lot, None))
            self.refused(lambda lot, call=call: call(w, (0, 1), lot))
            self.told(BadLot, {"place": -1}, call, w, (0, 2), ())
            self.told(BadLot, {"place": 1}, call, w, (0, 0), ())
            self.told(NotCrowd, {}, call, w, (0, 1), (0, 2))
            self.told(NotCrowd, {}, call, w, (0,), (0, 1))
            self.told(NotCrowd, {}, call, Web(*FOUR), (0, 1), (1,))
            self.told(NoSpans, {"four": (0, 1, 2, 3), "ring": ()}, call, Web(*FOUR), [3, 0], (0, 3))

    def refused(self, call):
        for value in strange_wholes() + [(), []]:
            self.told(BadLot, {"place": -1}, call, value)
        for value in strange_things(4):
            self.told(BadLot, {"place": 1}, call, (2, value))
        self.told(BadLot, {"place": 2}, call, [0, 1, 0])

    def test_arguments_stay(self):
        w, row = Web(*PATH), [[1, 0], [2, 1], [3, 2]]
        r = CrowdRows(w)
        p = r.order_of_crowds(row)
        first_crowd(w, row[0]), both_ends(w, row[0], row[2]), is_crowd_row(w, row), r.number_of(row)
        self.assertEqual(row, [[1, 0], [2, 1], [3, 2]])
        row[0][0] = 3
        row.pop()
        self.same(is_behind(p, ~w), True)


if __name__ == "__main__":
    unittest.main()
