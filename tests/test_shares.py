"""Shares of the orders: points 80 and 81."""

import unittest
from fractions import Fraction
from itertools import combinations, permutations
from math import factorial

from ordersbehind.behind import Behind
from ordersbehind.errors import BadPair, BadThing, NotTied
from ordersbehind.shares import both, middle_counts, middle_kind, together
from ordersbehind.webs import Web
from tests.case import Case, strange_pairs, strange_things
from tests.plainly import FIVE, HAT, MIXED, PATH, Look, middling_webs, webs_with_orders


def pairwise_tied(look):
    return [three for three in combinations(look.things, 3) if all(look.tied(a, b) for a, b in combinations(three, 2))]


class TwoArrowsTest(Case):

    def test_every_two_arrows(self):
        for told, orders in webs_with_orders():
            b, arrows = Behind(Web(*told)), Look(*told).arrows()
            known = [set(order) for order in orders]
            for one in arrows:
                for other in arrows:
                    share = Fraction(sum(one in order and other in order for order in known), len(known))
                    neither = Fraction(sum(one not in order and other not in order for order in known), len(known))
                    self.assertEqual(share, neither)
                    self.same(both(b, one, list(other)), (share.numerator, share.denominator))
                    share = share + neither
                    self.same(together(b, list(one), other), (share.numerator, share.denominator))

    def test_known(self):
        b = Behind(Web.full(40))
        for one, other, share, either in (((0, 1), (0, 1), (1, 2), (1, 1)), ((0, 1), (1, 0), (0, 1), (0, 1)),
                                          ((0, 1), (0, 2), (1, 3), (2, 3)), ((1, 0), (2, 0), (1, 3), (2, 3)),
                                          ((0, 1), (1, 2), (1, 6), (1, 3)), ((2, 0), (1, 2), (1, 6), (1, 3)),
                                          ((0, 1), (39, 38), (1, 4), (1, 2))):
            self.same((both(b, one, other), together(b, one, other)), (share, either))
        b = Behind(Web(*MIXED))
        self.same((both(b, (0, 1), (3, 4)), both(b, (0, 1), (1, 3))), ((1, 2), (0, 1)))
        self.same((both(b, (0, 1), (1, 2)), both(b, (0, 6), (5, 6)), both(b, (0, 1), (1, 6))), ((1, 4), (1, 2), (1, 4)))

    def test_errors(self):
        b = Behind(Web(3, [(0, 1)]))
        for call in (both, together):
            for value in strange_pairs(3):
                self.told(BadPair, {"place": 0}, call, b, value, (0, 2))
                self.told(BadPair, {"place": 0}, call, b, (0, 2), value)
            self.told(NotTied, {"first": 2, "second": 1}, call, b, [2, 1], (0, 2))
            self.told(NotTied, {"first": 0, "second": 2}, call, b, (1, 0), [0, 2])


class ThreeThingsTest(Case):

    def test_every_three(self):
        for told, orders in webs_with_orders():
            b, look = Behind(Web(*told)), Look(*told)
            for three in pairwise_tied(look):
                for things in permutations(three):
                    want = []
                    for thing in things:
                        one, other = [x for x in things if x != thing]
                        want.append(sum(((one, thing) in order) == ((thing, other) in order) for order in orders))
                    self.same(middle_counts(b, *things), tuple(want))

    def test_kinds(self):
        for told in middling_webs():
            w, look = Web(*told), Look(*told)
            for three in pairwise_tied(look):
                names = {look.colour_of(tie)[0] for tie in combinations(three, 2)}
                for things in permutations(three):
                    self.same(middle_kind(w, *things), len(names))

    def test_known(self):
        full = Web.full(40)
        self.same((middle_kind(full, 39, 0, 20), middle_counts(Behind(full), 39, 0, 20)),
                  (3, (factorial(40) // 3,) * 3))
        # Two things of one lot have one colour with a thing outside, and a colour of their own.
        b = Behind(Web(*HAT))
        self.same((middle_kind(b.web, 4, 1, 0), middle_counts(b, 4, 1, 0)), (2, (0, 2, 2)))
        self.same(middle_counts(b, 1, 4, 0), (2, 0, 2))
        self.same(middle_counts(b, 1, 0, 4), (2, 2, 0))

    def test_one_colour(self):
        bull = (5, ((0, 1), (0, 2), (0, 3), (1, 2), (2, 4)))
        self.same(middle_kind(Web(*bull), 0, 1, 2), 1)
        self.same(middle_counts(Behind(Web(*bull)), 0, 1, 2), (0, 2, 0))
        self.same(middle_counts(Behind(Web(*bull)), 1, 2, 0), (2, 0, 0))
        for told, orders in webs_with_orders():
            look = Look(*told)
            for things in pairwise_tied(look):
                if len({look.colour_of(tie) for tie in combinations(things, 2)}) == 1:
                    self.assertEqual(sorted(middle_counts(Behind(Web(*told)), *things)), [0, 0, len(orders)])

    def test_no_orders(self):
        net = Web(6, [(0, 1), (0, 2), (0, 3), (1, 2), (1, 4), (2, 5)])
        self.same(middle_kind(net, 2, 0, 1), 1)
        self.same(middle_kind(Web(*FIVE) & Web(1) & Web(1), 0, 6, 5), 3)
        self.same(middle_kind(Web(*FIVE) & Web(1), 0, 5, 1), 2)

    def test_errors(self):
        b = Behind(Web(*HAT))
        for call, whole in ((middle_kind, b.web), (middle_counts, b)):
            for value in strange_things(5):
                self.told(BadThing, {"name": "first"}, call, whole, value, None, None)
                self.told(BadThing, {"name": "second"}, call, whole, 0, value, None)
                self.told(BadThing, {"name": "third"}, call, whole, 0, 2, value)
            self.told(BadThing, {"name": "second"}, call, whole, 2, 2, None)
            self.told(BadThing, {"name": "third"}, call, whole, 0, 2, 2)
            self.told(BadThing, {"name": "third"}, call, whole, 0, 2, 0)
            self.told(NotTied, {"first": 2, "second": 0}, call, whole, 2, 0, 3)
            self.told(NotTied, {"first": 1, "second": 3}, call, whole, 1, 4, 3)
            self.told(NotTied, {"first": 1, "second": 3}, call, whole, 4, 1, 3)
            self.told(NotTied, {"first": 1, "second": 3}, call, whole, 1, 0, 3)
        self.told(NotTied, {"first": 0, "second": 1}, middle_kind, Web(3), 0, 1, 2)
        self.told(NotTied, {"first": 2, "second": 0}, middle_kind, Web(*PATH), 2, 0, 3)


if __name__ == "__main__":
    unittest.main()
