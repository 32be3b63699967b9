"""Crowds and bare fours: point 122."""

import unittest
from itertools import combinations, permutations

from ordersbehind.crowds import bare_four, crowds, is_bare_four, is_crowd
from ordersbehind.errors import BadLot, TooMany
from ordersbehind.webs import Web
from tests.case import Case, strange_things, strange_wholes
from tests.plainly import Look, every_lot, middling_webs, some_webs


def own_is_crowd(look, lot):
    if not all(look.tied(a, b) for a, b in combinations(lot, 2)):
        return False
    return not any(all(look.tied(thing, other) for other in lot) for thing in look.things if thing not in lot)


def own_crowds(look):
    return tuple(sorted(lot for lot in every_lot(look.size) if own_is_crowd(look, lot)))


def own_is_four(look, things):
    a, b, c, d = things
    return (look.tied(a, b) and look.tied(b, c) and look.tied(c, d) and look.tied(a, d)
            and not look.tied(a, c) and not look.tied(b, d))


def own_fours(look):
    return [things for things in permutations(look.things, 4) if own_is_four(look, things)]


def joined(many, size):
    """So many free webs of a size, each of whose things is tied to all things of the others."""
    w = Web(size)
    for _ in range(many - 1):
        w = w & Web(size)
    return w


class CrowdsTest(Case):

    def test_every_lot(self):
        for told in list(middling_webs()) + list(some_webs(71, 10, (8, 9))):
            look, w = Look(*told), Web(*told)
            want = own_crowds(look)
            self.same(crowds(w), want)
            for lot in every_lot(told[0])[::1 if told[0] < 7 else 5]:
                self.same(is_crowd(w, list(lot)[::-1]), lot in want)

    def test_large(self):
        self.same(crowds(Web(40)), tuple((thing,) for thing in range(40)))
        self.same(crowds(Web.full(40)), (tuple(range(40)),))
        self.same(crowds(Web(1)), ((0,),))
        self.same(len(crowds(Web(40, [(a, a + 1) for a in range(39)]))), 39)
        self.same((is_crowd(Web.full(40), list(range(40))), is_crowd(Web.full(40), (0, 39))), (True, False))

    def test_bound(self):
        # 2 * 250 crowds, and one more.
        w = joined(3, 5) & Web(4)
        self.same(len(crowds(w)), 500)
        self.told(TooMany, {"name": "crowds"}, crowds, w | Web(1))
        self.told(TooMany, {"name": "crowds"}, crowds, Web(1) | w)
        self.same(is_crowd(w | Web(1), [19]), True)
        for many, size in ((13, 3), (20, 2), (8, 5), (9, 2), (4, 10)):
            w = joined(many, size)
            self.told(TooMany, {"name": "crowds"}, crowds, w)
            self.same((is_crowd(w, range_of(many, size)), is_crowd(w, range_of(many, size)[1:])), (True, False))

    def test_errors(self):
        w = Web(4, [(0, 1)])
        for value in strange_wholes() + [(), []]:
            self.told(BadLot, {"place": -1}, is_crowd, w, value)
        for value in strange_things(4):
            self.told(BadLot, {"place": 1}, is_crowd, w, (2, value))
        self.told(BadLot, {"place": 2}, is_crowd, w, [0, 1, 0])

    def test_argument_stays(self):
        lot = [1, 0]
        is_crowd(Web.full(2), lot)
        self.assertEqual(lot, [1, 0])


def range_of(many, size):
    """One thing of each of the free webs."""
    return tuple(range(0, many * size, size))


class BareFourTest(Case):

    def test_every_four(self):
        for told in list(middling_webs()) + list(some_webs(72, 10, (8,))):
            look, w = Look(*told), Web(*told)
            fours = own_fours(look)
            self.same(bare_four(w), min(fours, default=None))
            if told[0] <= 6:
                for things in permutations(look.things, 4):
                    self.same((is_bare_four(w, things), is_bare_four(w, list(things))), (things in fours,) * 2)

    def test_known(self):
        four = Web(4, [(0, 1), (1, 2), (2, 3), (0, 3)])
        self.same(bare_four(four), (0, 1, 2, 3))
        self.same([is_bare_four(four, things) for things in ((2, 1, 0, 3), [1, 2, 3, 0], (0, 2, 1, 3), (0, 1, 3, 2))],
                  [True, True, False, False])
        self.same(bare_four(Web(36) | four), (36, 37, 38, 39))
        self.same((bare_four(Web.full(40)), bare_four(Web(40)), bare_four(Web(1))), (None, None, None))
        self.same(bare_four(joined(20, 2)), (0, 2, 1, 3))

    def test_other_values(self):
        four = Web(5, [(0, 1), (1, 2), (2, 3), (0, 3)])
        for value in strange_wholes() + [(), [], (0, 1, 2), (0, 1, 2, 3, 4), [0, 1, 2, 3, 0], (0, 1, 0, 1), "0123"]:
            self.same(is_bare_four(four, value), False)
        for value in strange_things(5):
            if value.__class__ is not bool:
                self.same((is_bare_four(four, (value, 1, 2, 3)), is_bare_four(four, [0, 1, 2, value])), (False, False))
        self.same((is_bare_four(four, (False, 1, 2, 3)), is_bare_four(four, (0, True, 2, 3))), (False, False))
        self.same(is_bare_four(Web(3), (0, 1, 2)), False)


if __name__ == "__main__":
    unittest.main()
