"""Parts: points 31 and 32."""

import unittest
from itertools import combinations

from ordersbehind.errors import BadLot, TooMany
from ordersbehind.parts import is_part, lap, part_with, parts, splitter
from ordersbehind.webs import Web
from tests.case import Case, strange_things, strange_wholes
from tests.plainly import FIVE, HAT, LONE, MIXED, Look, every_web, laps, middling_webs, small_webs


def every_lot(size):
    return [lot for many in range(1, size + 1) for lot in combinations(range(size), many)]


class PartsTest(Case):

    def test_every_lot(self):
        for told in list(small_webs()) + [FIVE, HAT, LONE, MIXED] + list(every_web(5))[::19]:
            w, look = Web(*told), Look(*told)
            known = look.parts()
            for lot in every_lot(told[0]):
                for passed in (lot, list(lot)[::-1]):
                    self.same(splitter(w, passed), look.splitter(lot))
                    self.same(is_part(w, passed), lot in known)
                around = [part for part in known if set(lot) <= set(part)]
                self.same(part_with(w, lot[::-1]), min(around, key=len))
                self.assertTrue(all(set(part_with(w, list(lot))) <= set(part) for part in around))

    def test_listing(self):
        for told in middling_webs():
            self.same(parts(Web(*told)), tuple(Look(*told).parts()))

    def test_bound(self):
        self.same(len(parts(Web(12))), 4095)
        self.same(len(parts(Web(12, [(a, a + 1) for a in range(11)]))), 13)
        for w in (Web(13), Web(40), Web.full(13)):
            self.told(TooMany, {"name": "things"}, parts, w)

    def test_large(self):
        path = Web(40, [(a, a + 1) for a in range(39)])
        self.same(splitter(path, [20, 21]), 19)
        self.same(part_with(path, [39, 38]), tuple(range(40)))
        self.same(part_with(Web.full(40), [39, 0, 7]), (0, 7, 39))

    def test_errors(self):
        w = Web(3, [(0, 1)])
        for call in (splitter, is_part, part_with):
            for value in strange_wholes() + [(), []]:
                self.told(BadLot, {"place": -1}, call, w, value)
            for value in strange_things(3):
                self.told(BadLot, {"place": 1}, call, w, [2, value, 2])
            self.told(BadLot, {"place": 2}, call, w, (2, 0, 2))

    def test_argument_stays(self):
        lot = [2, 0]
        splitter(Web(3), lot), is_part(Web(3), lot), part_with(Web(3), lot)
        self.assertEqual(lot, [2, 0])


class LawsTest(Case):

    def test_two_parts(self):
        for told in middling_webs():
            known = parts(Web(*told))
            self.assertTrue(all((thing,) in known for thing in range(told[0])))
            self.assertIn(tuple(range(told[0])), known)
            for one, other in combinations(known, 2):
                shared = set(one) & set(other)
                if shared:
                    self.assertIn(tuple(sorted(shared)), known)
                    self.assertIn(tuple(sorted(set(one) | set(other))), known)
                if lap(one, other):
                    self.assertIn(tuple(sorted(set(one) - set(other))), known)
                    self.assertIn(tuple(sorted(set(other) - set(one))), known)


class LapTest(Case):

    def test_every_two_lots(self):
        lots = every_lot(4) + [()]
        for one in lots:
            for other in lots:
                self.same(lap(one, other), laps(one, other))

    def test_any_integers(self):
        self.same(lap((-5, 10 ** 20), (10 ** 20, 7)), True)
        self.same(lap((7, -5), (-5,)), False)
        self.same(lap((), ()), False)
        self.same(lap((), (1, 2)), False)
        self.same(lap((2, 1), (1, 2)), False)
        self.same(lap((3, 1, 2), (2, 4)), True)


if __name__ == "__main__":
    unittest.main()
