"""Forcing: points 16 and 25."""

import unittest

from ordersbehind.errors import BadPair, NotTied
from ordersbehind.forcing import forced_by, forces
from ordersbehind.webs import Web
from tests.case import Case, strange_pairs
from tests.plainly import FIVE, HAT, MIXED, NET, Look, small_webs, some_webs


class ForcingTest(Case):

    def test_every_arrow(self):
        for told in list(small_webs()) + [FIVE, NET, HAT, MIXED] + list(some_webs(4, 60, (5, 6, 7))):
            w, look = Web(*told), Look(*told)
            for arrow in look.arrows():
                forced = look.forced(arrow)
                self.same(forced_by(w, arrow), tuple(forced))
                self.same(forced_by(w, list(arrow)), tuple(forced))
                for other in look.arrows():
                    self.same(forces(w, arrow, other), other in forced)

    def test_laws(self):
        for told in small_webs():
            w = Web(*told)
            for a, b in Look(*told).arrows():
                self.assertNotIn((a, b), forced_by(w, (a, b)))
                for c, d in forced_by(w, (a, b)):
                    self.assertIn((a, b), forced_by(w, (c, d)))
                    self.assertIn((d, c), forced_by(w, (b, a)))

    def test_lists_and_tuples(self):
        w = Web(3, [(0, 1), (1, 2)])
        for one in ((0, 1), [0, 1]):
            for other in ((2, 1), [2, 1]):
                self.same(forces(w, one, other), True)
            for other in ((1, 2), [1, 0], (0, 1)):
                self.same(forces(w, one, other), False)

    def test_forty_things(self):
        star = Web(40, [(0, thing) for thing in range(1, 40)])
        self.same(forced_by(star, (5, 0)), tuple((thing, 0) for thing in range(1, 40) if thing != 5))
        self.same(forced_by(Web.full(40), (5, 0)), ())

    def test_bad_pairs(self):
        w = Web(3, [(0, 1)])
        for value in strange_pairs(3):
            self.told(BadPair, {"place": 0}, forced_by, w, value)
            self.told(BadPair, {"place": 0}, forces, w, value, (0, 1))
            self.told(BadPair, {"place": 0}, forces, w, (0, 1), value)
            self.told(BadPair, {"place": 0}, forces, w, (1, 2), value)
            self.told(BadPair, {"place": 0}, forces, w, value, (1, 2))

    def test_not_tied(self):
        w = Web(3, [(0, 1)])
        for pair in ((1, 2), (2, 1), [2, 0], [0, 2]):
            names = {"first": pair[0], "second": pair[1]}
            self.told(NotTied, names, forced_by, w, pair)
            self.told(NotTied, names, forces, w, pair, (0, 1))
            self.told(NotTied, names, forces, w, (0, 1), pair)
            self.told(NotTied, names, forces, w, pair, (0, 2))
            self.told(NotTied, {"first": 2, "second": 0}, forces, w, (2, 0), pair)


if __name__ == "__main__":
    unittest.main()
