"""Chains: points 17 and 25."""

import unittest

from ordersbehind.chains import chain, is_chain
from ordersbehind.errors import BadPair, NotTied
from ordersbehind.webs import Web
from tests.case import Case, strange_pairs, strange_wholes
from tests.plainly import FIVE, HAT, MIXED, NET, Look, small_webs, some_webs


class ChainTest(Case):

    def test_as_short_as_layers(self):
        for told in list(small_webs()) + [FIVE, NET, HAT, MIXED] + list(some_webs(5, 30, (5, 6, 7))):
            w, look = Web(*told), Look(*told)
            arrows = look.arrows()
            for one in arrows[::3]:
                layers = look.layers(one)
                for other in arrows:
                    self.look_at(w, look, one, other, layers.get(other))

    def look_at(self, w, look, one, other, far):
        found = chain(w, one, list(other))
        if far is None:
            self.same(found, None)
            return
        self.same(len(found), far + 1)
        self.same((found[0], found[-1]), (one, other))
        self.assertTrue(all(look.forces(x, y) for x, y in zip(found, found[1:])))
        self.assertIs(found.__class__, tuple)
        self.same(found, tuple((a, b) for a, b in found))
        self.same(chain(w, list(one), other), found)
        self.same(is_chain(w, found), True)

    def test_equal_arrows(self):
        self.same(chain(Web(2, [(0, 1)]), (1, 0), [1, 0]), ((1, 0),))
        self.same(chain(Web(2, [(0, 1)]), [1, 0], (0, 1)), None)

    def test_long(self):
        path = Web(40, [(thing, thing + 1) for thing in range(39)])
        found = chain(path, (0, 1), (38, 39))
        self.same(found, tuple((a, a + 1) if a % 2 == 0 else (a + 1, a) for a in range(39)))
        self.same(chain(path, (0, 1), (39, 38)), None)

    def test_errors(self):
        w = Web(3, [(0, 1)])
        for value in strange_pairs(3):
            self.told(BadPair, {"place": 0}, chain, w, value, (0, 2))
            self.told(BadPair, {"place": 0}, chain, w, (0, 2), value)
        self.told(NotTied, {"first": 1, "second": 2}, chain, w, [1, 2], (2, 0))
        self.told(NotTied, {"first": 2, "second": 0}, chain, w, (1, 0), (2, 0))


class IsChainTest(Case):

    def test_good(self):
        w = Web(4, [(0, 1), (1, 2), (2, 3)])
        for arrows in (((0, 1), (2, 1), (2, 3)), [[0, 1], [2, 1], [2, 3]], ((0, 1), [0, 1], (2, 1)), ([3, 2],),
                       [(0, 1), (2, 1), (0, 1), (0, 1), [2, 1]]):
            self.same(is_chain(w, arrows), True)

    def test_spoilt(self):
        w = Web(4, [(0, 1), (1, 2), (2, 3)])
        for arrows in (((0, 1), (2, 3)), ((0, 1), (1, 2)), ((0, 1), (1, 0)), ((0, 1), (2, 1), (3, 2)), ((0, 2),),
                       ((0, 1), (2, 1), (2, 0)), [(1, 0), (2, 1), (2, 3)], ((0, 1), (2, 1), (2, 3), (0, 1))):
            self.same(is_chain(w, arrows), False)

    def test_turned(self):
        net = Web(*NET)
        whole = chain(net, (0, 3), (3, 0))
        self.same(is_chain(net, whole), True)
        self.same(is_chain(net, whole[::-1]), True)
        self.same(is_chain(net, [(b, a) for a, b in whole]), True)
        for place in range(len(whole)):
            spoilt = list(whole)
            spoilt[place] = spoilt[place][::-1]
            self.same(is_chain(net, spoilt), False)

    def test_other_values(self):
        w = Web.full(3)
        for value in strange_wholes() + [(), [], (0, 1), [0, 1], "", {(0, 1): 1}]:
            self.same(is_chain(w, value), False)
        for value in strange_pairs(3):
            self.same(is_chain(w, [value]), False)
            self.same(is_chain(w, ((0, 1), (0, 1), value)), False)
            self.same(is_chain(w, [value, (0, 1)]), False)
        self.same(is_chain(w, iter([(0, 1)])), False)

    def test_every_pair_of_arrows(self):
        for told in [HAT, FIVE] + list(small_webs())[::5]:
            w, look = Web(*told), Look(*told)
            for one in look.arrows():
                for other in look.arrows():
                    self.same(is_chain(w, [one, list(other)]), one == other or look.forces(one, other))


if __name__ == "__main__":
    unittest.main()
