"""Colours in the wood: points 38 to 41."""

import unittest
from itertools import combinations

from ordersbehind.classes import colours, is_odd, touched
from ordersbehind.colourwood import (colour_place, count_colours, count_loose, knot_colours, lots_by_colours, odd_knots,
                                     ring_below)
from ordersbehind.errors import BadNumber, BadPair, BadRow, NotTied
from ordersbehind.parts import lap
from ordersbehind.rings import is_odd_ring, odd_ring
from ordersbehind.webs import Web
from ordersbehind.wood import Wood, quotient
from tests.case import Case, strange_pairs, strange_things, strange_wholes
from tests.plainly import FIVE, HAT, LONE, MIXED, NET, PATH, Look, middling_webs, nested_webs, some_webs
from tests.test_wood import strange_numbers

# Five and a net, one below the other, and a path beside both.
ODD = (15, FIVE[1] + tuple((a + 5, b + 5) for a, b in NET[1]) + tuple((a, b) for a in range(5) for b in range(5, 11))
       + tuple((a + 11, b + 11) for a, b in PATH[1]))


def webs():
    yield from middling_webs()
    yield ODD
    yield from nested_webs(12, 10, 14)


def parting_ties(x, knot):
    return [tie for tie in x.web.ties if x.parting(tie[0], tie[1]) is knot]


class ColoursTest(Case):

    def test_knot_colours(self):
        for told in webs():
            x = Wood(Web(*told))
            known = Look(*told).colours()
            for knot in x.knots:
                ties = parting_ties(x, knot)
                want = tuple(colour for colour in known if colour[0] in ties)
                self.same(knot_colours(x, knot.number), want)
                self.assertEqual(sorted(tie for colour in want for tie in colour), ties)
            for value in strange_numbers(len(x.knots)):
                self.told(BadNumber, {"name": "number"}, knot_colours, x, value)

    def test_colours_of_kinds(self):
        x = Wood(Web(*MIXED))
        self.same(knot_colours(x, 0), (tuple((thing, 6) for thing in range(6)),))
        self.same(knot_colours(x, 1), (((0, 1), (0, 2), (1, 3), (2, 3), (3, 4), (3, 5)),))
        self.same(knot_colours(x, 2), (((1, 2),),))
        self.same(knot_colours(x, 3), ())
        self.same(knot_colours(Wood(Web.full(3)), 0), (((0, 1),), ((0, 2),), ((1, 2),)))
        self.same(knot_colours(Wood(Web(4, [(0, 3), (1, 2)]) & Web(1)), 0), (((0, 4), (1, 4), (2, 4), (3, 4)),))
        self.same(knot_colours(Wood(Web(3, [(0, 1), (1, 2)])), 0), (((0, 1), (1, 2)),))

    def test_least_ties_come_first(self):
        # The children by their least things are 0 and 4, 1 and 3, 2.
        x = Wood(~Web(5, [(0, 4), (1, 3)]))
        self.same(knot_colours(x, 0), (((0, 1), (0, 3), (1, 4), (3, 4)), ((0, 2), (2, 4)), ((1, 2), (2, 3))))

    def test_touched(self):
        for told in webs():
            w = Web(*told)
            x = Wood(w)
            for colour in colours(w):
                number, i, j = colour_place(x, colour[0])
                knot = x.knots[number]
                want = knot.lot if i < 0 else tuple(sorted(knot.children[i] + knot.children[j]))
                self.same(touched(w, colour[0]), want)

    def test_colour_place(self):
        for told in webs():
            x = Wood(Web(*told))
            for tie in told[1]:
                knot = x.parting(tie[0], tie[1])
                i, j = sorted((knot.child(tie[0]), knot.child(tie[1])))
                want = (knot.number, -1, -1) if knot.kind == "firm" else (knot.number, i, j)
                for passed in (tie, tie[::-1], list(tie), list(tie)[::-1]):
                    self.same(colour_place(x, passed), want)

    def test_tie_errors(self):
        x = Wood(Web(3, [(0, 1)]))
        for value in strange_pairs(3):
            self.told(BadPair, {"place": 0}, colour_place, x, value)
        self.told(NotTied, {"first": 2, "second": 1}, colour_place, x, (2, 1))
        self.told(NotTied, {"first": 0, "second": 2}, colour_place, x, [0, 2])

    def test_counts(self):
        for told in webs():
            w = Web(*told)
            x, y = Wood(w), Wood(~w)
            self.same(count_colours(x), len(colours(w)))
            firm = [len(knot.children) for knot in x.knots if knot.kind == "firm"]
            full = [len(knot.children) for knot in x.knots if knot.kind == "full"]
            self.same(count_loose(x), len(firm) + sum(many - 1 for many in full))
            self.same(count_colours(x) - count_loose(x), sum((many - 1) * (many - 2) // 2 for many in full))
            self.assertEqual(count_loose(x) + count_loose(y), told[0] - 1 - sum(many - 3 for many in firm))

    def test_counts_large(self):
        self.same((count_colours(Wood(Web.full(40))), count_loose(Wood(Web.full(40)))), (780, 39))
        self.same((count_colours(Wood(Web(40))), count_loose(Wood(Web(40)))), (0, 0))
        self.same((count_colours(Wood(Web(1))), count_loose(Wood(Web(1)))), (0, 0))
        self.same((count_colours(Wood(Web(*PATH))), count_loose(Wood(Web(*PATH)))), (1, 1))

    def test_lapping_colours(self):
        for told in middling_webs():
            w = Web(*told)
            x = Wood(w)
            for one, other in combinations(colours(w), 2):
                a, b = colour_place(x, one[0]), colour_place(x, other[0])
                common = a[0] == b[0] and len(set(a[1:]) & set(b[1:]))
                self.assertEqual(lap(touched(w, one[0]), touched(w, other[0])), common == 1)


class OddTest(Case):

    def test_odd_knots(self):
        for told in webs():
            w, x = Web(*told), Wood(Web(*told))
            want = []
            for knot in x.knots:
                if knot.kind == "firm":
                    q = quotient(x, knot.number)
                    colour = knot_colours(x, knot.number)[0]
                    odd = Look(len(q), q.ties).least_ring(q.ties) is not None if len(q) < 7 else is_odd(w, colour[0])
                    self.assertEqual(is_odd(w, colour[0]), odd)
                    if odd:
                        want.append(knot.number)
            self.same(odd_knots(x), tuple(want))
            for knot in x.knots:
                if knot.kind == "full":
                    self.assertFalse(any(is_odd(w, colour[0]) for colour in knot_colours(x, knot.number)))

    def test_several(self):
        x = Wood(Web(*ODD))
        firm = [knot for knot in x.knots if knot.kind == "firm"]
        self.same([knot.lot for knot in firm], [(5, 6, 7, 8, 9, 10), (0, 1, 2, 3, 4), (11, 12, 13, 14)])
        self.same(odd_knots(x), tuple(knot.number for knot in firm[:2]))
        for told in (PATH, HAT, LONE, MIXED, (3, ()), (1, ()), (3, ((0, 1), (0, 2), (1, 2)))):
            self.same(odd_knots(Wood(Web(*told))), ())

    def test_sizes_of_rings(self):
        for told in [FIVE, NET, HAT, LONE] + list(some_webs(15, 30, (5, 6, 7))):
            x, look = Wood(Web(*told)), Look(*told)
            below = set()
            for knot in x.knots:
                if knot.kind == "firm":
                    q = quotient(x, knot.number)
                    below |= set(Look(len(q), q.ties).ring_sizes(q.ties, 13))
            self.assertEqual(look.ring_sizes(look.ties, 13), sorted(below))

    def test_ring_below(self):
        told = list(some_webs(13, 60, (6, 7, 8))) + [FIVE, NET, ODD]
        for size, ties in told:
            w = Web(size, ties)
            x = Wood(w)
            for number in odd_knots(x):
                q = quotient(x, number)
                small = odd_ring(q)
                ring = tuple(x.knots[number].leaders()[child] for child in small)
                self.same(is_odd_ring(w, ring), True)
                self.same(ring_below(x, ring), (number, small))
                self.same(ring_below(x, list(ring)), (number, small))
                self.same(len(odd_ring(w, tie=(ring[0], ring[1]))), len(small))

    def test_ring_below_larger_things(self):
        # A ring of five in which two things, tied or not, take the place of the second thing.
        for tie in ((), ((1, 5),)):
            w = Web(6, FIVE[1] + ((0, 5), (2, 5)) + tie)
            x = Wood(w)
            self.same(ring_below(x, [5, 2, 3, 4, 0]), (0, (1, 2, 3, 4, 0)))
            if not tie:
                self.same(ring_below(x, (0, 5, 0, 1, 2, 3, 4)), (0, (0, 1, 0, 1, 2, 3, 4)))

    def test_ring_below_errors(self):
        x = Wood(Web(*FIVE))
        for value in strange_wholes() + [(), [], (0, 1, 2, 3), (0, 1, 2, 3, 3), (0, 1, 2), [0, 1]]:
            self.told(BadRow, {"place": 0}, ring_below, x, value)
        for value in strange_things(5):
            self.told(BadRow, {"place": 0}, ring_below, x, [0, 1, 2, 3, value])


class LotsTest(Case):

    def test_lots_by_colours(self):
        for told in webs():
            self.same(lots_by_colours(Web(*told)), Wood(Web(*told)).lots())

    def test_large(self):
        for w in (Web(1), Web(40), Web.full(40), Web(40, [(a, a + 1) for a in range(39)])):
            self.same(lots_by_colours(w), Wood(w).lots())

    def test_heaps(self):
        for told in middling_webs():
            w = Web(*told)
            own = {touched(w, colour[0]) for colour in colours(w)}
            other = {touched(~w, colour[0]) for colour in colours(~w)}
            heaps = []
            for lot in own | other:
                joined = [heap for heap in heaps if any(lap(lot, one) for one in heap)]
                heaps = [heap for heap in heaps if heap not in joined] + [sum(joined, []) + [lot]]
            unions = {tuple(sorted({thing for lot in heap for thing in lot})) for heap in heaps}
            x = Wood(w)
            self.assertEqual(unions, {knot.lot for knot in x.knots})
            self.assertEqual(own & other, {knot.lot for knot in x.knots if knot.kind == "firm"})


if __name__ == "__main__":
    unittest.main()
