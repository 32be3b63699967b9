"""Odd rings: points 18, 20, 25 and 48."""

import unittest
from itertools import product

from ordersbehind.chains import is_chain
from ordersbehind.classes import colour_of, is_odd
from ordersbehind.errors import BadPair, BadRow, NotTied
from ordersbehind.rings import colour_of_ring, is_odd_ring, odd_ring, ring_chain
from ordersbehind.webs import Web
from tests.case import Case, strange_pairs, strange_things, strange_wholes
from tests.plainly import FIVE, HAT, NET, PATH, Look, every_web, middling_webs, some_webs

SEVEN = (7, tuple((thing, thing + 1) for thing in range(6)) + ((0, 6),))
# A ring of seven things and a ring of five, one colour each.
TWO = (12, SEVEN[1] + ((7, 8), (7, 11), (8, 9), (9, 10), (10, 11)))


def odd_webs():
    """Webs that have an odd ring, and some that have none."""
    yield from (PATH, FIVE, NET, HAT, SEVEN, TWO)
    yield from middling_webs()
    yield from (told for told in every_web(5) if len(told[1]) == 5)
    yield from some_webs(6, 40, (6, 7, 8))


class OddRingTest(Case):

    def test_as_short_as_any(self):
        for told in odd_webs():
            w, look = Web(*told), Look(*told)
            least = look.least_ring(look.ties)
            ring = odd_ring(w)
            self.same(None if ring is None else len(ring), least)
            self.assertEqual(least is not None, any(look.is_odd(tie) for tie in look.ties))
            if ring is not None:
                self.look_at(w, look, ring)
                self.same(odd_ring(w), ring)

    def look_at(self, w, look, ring):
        self.assertIs(ring.__class__, tuple)
        self.assertTrue(look.is_ring(ring))
        self.assertTrue(5 <= len(ring) <= 2 * len(look.ties) - 3)
        self.same(is_odd_ring(w, ring), True)
        colour = look.colour_of((ring[0], ring[1]))
        self.assertTrue(all(tuple(sorted(pair)) in colour for pair in zip(ring, ring[1:])))

    def test_of_a_colour(self):
        for told in odd_webs():
            w, look = Web(*told), Look(*told)
            for colour in look.colours():
                least = look.least_ring(colour)
                self.assertEqual(least is not None, look.is_odd(colour[0]))
                for tie in (colour[0], colour[-1][::-1], list(colour[0])):
                    ring = odd_ring(w, tie=tie)
                    self.same(None if ring is None else len(ring), least)
                    if ring is not None:
                        self.look_at(w, look, ring)
                        self.assertIn(tuple(sorted(ring[:2])), colour)

    def test_shorter_ring_behind(self):
        self.same(len(odd_ring(Web(*TWO))), 5)
        self.same(len(odd_ring(Web(*TWO), tie=(0, 1))), 7)
        self.same(len(odd_ring(Web(*TWO), tie=(10, 11))), 5)
        self.same(odd_ring(Web(*HAT), tie=None), None)

    def test_none(self):
        for w in (Web(1), Web(40), Web.full(40), Web(*PATH), Web(40, [(a, a + 1) for a in range(39)])):
            self.same(odd_ring(w), None)
        self.same(odd_ring(Web.full(3), tie=(2, 0)), None)

    def test_large(self):
        ring = Web(39, [(thing, (thing + 1) % 39) for thing in range(39)])
        self.same(len(odd_ring(ring)), 39)
        self.same(is_odd_ring(ring, odd_ring(ring)), True)
        self.same(len(odd_ring(~ring)), 39)

    def test_errors(self):
        w = Web(3, [(0, 1)])
        for value in strange_pairs(3):
            if value is not None:
                self.told(BadPair, {"place": 0}, odd_ring, w, tie=value)
        self.told(NotTied, {"first": 2, "second": 1}, odd_ring, w, tie=(2, 1))
        self.told(NotTied, {"first": 0, "second": 2}, odd_ring, w, tie=[0, 2])


class IsOddRingTest(Case):

    def test_short_sequences(self):
        house = (5, FIVE[1] + ((1, 4),))
        for told in (FIVE, house, (3, ((0, 1), (0, 2), (1, 2))), (4, ((0, 1), (0, 3), (1, 2), (2, 3)))):
            w, look = Web(*told), Look(*told)
            for many in (1, 2, 3, 4, 5):
                for things in product(range(told[0]), repeat=many):
                    self.same(is_odd_ring(w, things), look.is_ring(things))

    def test_good(self):
        for ring in ([0, 1, 2, 3, 4], (4, 3, 2, 1, 0), [2, 3, 4, 0, 1], (0, 1, 2, 3, 4, 3, 4),
                     (0, 1, 0, 1, 2, 3, 4), [0, 1, 2, 3, 4] * 3):
            self.same(is_odd_ring(Web(*FIVE), ring), True)
        self.same(is_odd_ring(Web(*NET), [3, 0, 1, 4, 1, 2, 5, 2, 0]), True)

    def test_spoilt(self):
        for ring in ((0, 1, 2, 3), (0, 1, 2, 3, 4, 0), (0, 1, 2, 3, 3), (0, 2, 4, 1, 3), (0, 1, 2), [0, 1] * 3,
                     (0, 1, 2, 3, 4) * 2, (1, 2, 3, 4), (0, 1, 2, 3, 5), (0,), (0, 1)):
            self.same(is_odd_ring(Web(*FIVE), ring), False)
        self.same(is_odd_ring(Web.full(5), (0, 1, 2, 3, 4)), False)
        self.same(is_odd_ring(Web.full(3), (0, 1, 2)), False)

    def test_spoilt_at_one_place(self):
        # A tie that is missing, or one that should not be, at each place of a ring of seven.
        for a in range(7):
            b, c = (a + 1) % 7, (a + 2) % 7
            missing = [tie for tie in SEVEN[1] if set(tie) != {a, b}]
            self.same(is_odd_ring(Web(7, missing), tuple(range(7))), False)
            self.same(is_odd_ring(Web(7, SEVEN[1] + ((a, c),)), tuple(range(7))), False)
            self.same(is_odd_ring(Web(7, SEVEN[1] + ((a, (a + 3) % 7),)), tuple(range(7))), True)

    def test_other_values(self):
        for value in strange_wholes() + [(), [], "01234", {0, 1, 2, 3, 4}, range(5)]:
            self.same(is_odd_ring(Web(*FIVE), value), False)
        for value in strange_things(5):
            self.same(is_odd_ring(Web(*FIVE), [0, 1, 2, 3, value]), False)
        self.same(is_odd_ring(Web(*FIVE), (False, True, 2, 3, 4)), False)
        self.same(is_odd_ring(Web(*FIVE), [0, 1, 2, 3, 4.0]), False)


class AlongTheRingTest(Case):

    def test_chain(self):
        for told in odd_webs():
            w = Web(*told)
            ring = odd_ring(w)
            if ring is not None:
                for passed in (ring, list(ring), ring[::-1], ring[2:] + ring[:2]):
                    self.look_at(w, passed)

    def look_at(self, w, ring):
        many = len(ring)
        x = list(ring) + [ring[0], ring[1]]
        want = tuple((x[i], x[i + 1]) if i % 2 == 0 else (x[i + 1], x[i]) for i in range(many + 1))
        self.same(ring_chain(w, ring), want)
        self.same(is_chain(w, want), True)
        self.same((want[0], want[-1]), ((x[0], x[1]), (x[1], x[0])))
        least = colour_of_ring(w, ring)
        self.same(least, colour_of(w, (x[0], x[1]))[0])
        self.assertTrue(is_odd(w, least))

    def test_things_that_stand_twice(self):
        ring = (0, 1, 2, 3, 4, 3, 4)
        self.same(ring_chain(Web(*FIVE), ring),
                  ((0, 1), (2, 1), (2, 3), (4, 3), (4, 3), (4, 3), (4, 0), (1, 0)))
        self.same(colour_of_ring(Web(*TWO), [8, 9, 10, 11, 7]), (7, 8))

    def test_errors(self):
        values = strange_wholes() + [(), [], (0, 1, 2, 3), (0, 1, 2, 3, 3), (0, 1, 2), (0, 1, 2, 3, 5), [0, 1]]
        for call in (ring_chain, colour_of_ring):
            for value in values + [[0, 1, 2, 3, thing] for thing in strange_things(5)]:
                self.told(BadRow, {"place": 0}, call, Web(*FIVE), value)


if __name__ == "__main__":
    unittest.main()
