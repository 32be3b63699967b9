"""Webs: points 1, 3, 4, 7, 10 and 11."""

import unittest

from ordersbehind.errors import BadLot, BadNumber, BadPair, BadRow, BadThing
from ordersbehind.orders import Order
from ordersbehind.webs import Web
from tests.case import Case, strange_pairs, strange_things, strange_wholes
from tests.plainly import Look, all_pairs, every_row, every_web, renamed, small_webs, some_webs


class MakingTest(Case):

    def test_attributes(self):
        for w in (Web(4, [(2, 1), (0, 1), [3, 2]]), Web(4, ([1, 2], (1, 0), (2, 3))),
                  Web(size=4, ties=((0, 1), (1, 2), (2, 3)))):
            self.same(w.size, 4)
            self.same(w.ties, ((0, 1), (1, 2), (2, 3)))

    def test_no_ties(self):
        self.same(Web(3).ties, ())
        self.same(Web(3, []).ties, ())

    def test_sizes(self):
        for size in (1, 40):
            self.same(Web(size).size, size)
        for size in (0, 41, -1, True, False, 1.0, "1", None, [1], 10 ** 30):
            self.told(BadNumber, {"name": "size"}, Web, size)
            self.told(BadNumber, {"name": "size"}, Web, size, "bad")
            self.told(BadNumber, {"name": "size"}, Web.full, size)

    def test_bad_ties(self):
        for value in strange_wholes():
            self.told(BadPair, {"place": -1}, Web, 3, value)
        for value in strange_pairs(3):
            self.told(BadPair, {"place": 1}, Web, 3, [(1, 0), value, (0, 1)])
        self.told(BadPair, {"place": 1}, Web, 3, [(1, 0), (0, 1), 7])
        self.told(BadPair, {"place": 2}, Web, 3, ((1, 0), (1, 2), [1, 0]))
        self.told(BadPair, {"place": 0}, Web, 1, [(0, 1)])

    def test_argument_changed_later(self):
        ties = [[1, 0], [2, 1]]
        w = Web(3, ties)
        self.assertEqual(ties, [[1, 0], [2, 1]])
        ties[0][0] = 2
        ties.append([0, 2])
        self.same(w.ties, ((0, 1), (1, 2)))
        self.assertTrue(w.tied(1, 0))
        self.assertFalse(w.tied(2, 0))

    def test_full(self):
        for size in (1, 2, 5, 40):
            self.same(Web.full(size).ties, tuple(all_pairs(size)))
            self.assertIs(Web.full(size).__class__, Web)


class LookingTest(Case):

    def test_tied(self):
        for told in small_webs():
            w, look = Web(*told), Look(*told)
            for a in look.things:
                for b in look.things:
                    self.same(w.tied(a, b), look.tied(a, b))
                self.same(w.tied(a, a), False)

    def test_tied_errors(self):
        w = Web(3, [(0, 1)])
        for value in strange_things(3):
            self.told(BadThing, {"name": "first"}, w.tied, value, 0)
            self.told(BadThing, {"name": "first"}, w.tied, value, value)
            self.told(BadThing, {"name": "second"}, w.tied, 0, value)

    def test_near(self):
        for told in small_webs():
            w, look = Web(*told), Look(*told)
            for a in look.things:
                self.same(w.near(a), tuple(b for b in look.things if look.tied(a, b)))
        for value in strange_things(3):
            self.told(BadThing, {"name": "thing"}, Web(3).near, value)

    def test_pieces(self):
        for told in list(small_webs()) + list(some_webs(1, 60, (6, 9, 12))):
            self.same(Web(*told).pieces(), Look(*told).pieces())
        self.same(Web(40).pieces(), tuple((thing,) for thing in range(40)))
        self.same(Web(40, [(a, a + 1) for a in range(39)]).pieces(), (tuple(range(40)),))

    def test_contrary(self):
        for told in small_webs():
            self.same((~Web(*told)).ties, Look(*told).contrary().ties)
            self.same((~Web(*told)).size, told[0])
            self.assertTrue(~~Web(*told) == Web(*told))

    def test_equal(self):
        w = Web(3, [(0, 1)])
        self.same(w == Web(3, ([1, 0],)), True)
        self.same(w == Web(4, [(0, 1)]), False)
        self.same(w == Web(3, [(0, 2)]), False)
        self.same(w != Web(3, [(1, 0)]), False)
        for value in (None, 3, ((0, 1),), (3, ((0, 1),)), "web", Order(3, [(0, 1)])):
            self.same(w == value, False)
            self.same(w != value, True)

    def test_len(self):
        for size in (1, 2, 40):
            self.same(len(Web(size)), size)

    def test_in(self):
        for size, ties in small_webs():
            w = Web(size, ties)
            for a in range(size):
                for b in range(size):
                    tied = (min(a, b), max(a, b)) in ties
                    self.same((a, b) in w, tied)
                    self.same([a, b] in w, tied)
        for value in strange_pairs(3) + strange_wholes():
            self.same(value in Web.full(3), False)

    def test_iterating(self):
        w = Web(4, [(2, 1), (0, 1), [3, 2]])
        self.same(list(w), [(0, 1), (1, 2), (2, 3)])
        self.same([tie for tie in w], list(w.ties))
        self.same(list(Web(2)), [])


class NewWebsTest(Case):

    def test_on(self):
        for told in small_webs():
            w, look = Web(*told), Look(*told)
            for mask in range(1, 1 << told[0]):
                lot = [a for a in look.things if mask >> a & 1]
                want = look.on(lot)
                for passed in (lot, tuple(lot), lot[::-1]):
                    self.same((w.on(passed).size, w.on(passed).ties), (want.size, want.ties))

    def test_on_errors(self):
        w = Web(3, [(0, 1)])
        for value in strange_wholes() + [[], ()]:
            self.told(BadLot, {"place": -1}, w.on, value)
        for value in strange_things(3):
            self.told(BadLot, {"place": 1}, w.on, [0, value, 0])
        self.told(BadLot, {"place": 2}, w.on, (0, 1, 0))

    def test_without(self):
        for told in every_web(4):
            for thing in range(4):
                want = Look(*told).on([a for a in range(4) if a != thing])
                got = Web(*told).without(thing)
                self.same((got.size, got.ties), (3, want.ties))

    def test_without_errors(self):
        for value in strange_things(3):
            self.told(BadThing, {"name": "thing"}, Web(3).without, value)
        self.told(BadNumber, {"name": "size"}, Web(1).without, 0)
        for value in strange_things(1):
            self.told(BadThing, {"name": "thing"}, Web(1).without, value)

    def test_renamed(self):
        for told in list(small_webs())[::3]:
            for row in every_row(told[0]):
                got = Web(*told).renamed(row)
                self.same((got.size, got.ties), (told[0], renamed(told[1], row)))
        self.same(Web(3, [(0, 1)]).renamed([2, 0, 1]).ties, ((0, 2),))

    def test_renamed_errors(self):
        for value in strange_wholes() + [[], (0, 1), [0, 1, 2, 3]]:
            self.told(BadRow, {"place": -1}, Web(3).renamed, value)
        for value in strange_things(3):
            self.told(BadRow, {"place": 1}, Web(3).renamed, [0, value, 0])
        self.told(BadRow, {"place": 2}, Web(3).renamed, (0, 1, 0))

    def test_nothing_changes(self):
        w, lot, row = Web(3, [(0, 1), (1, 2)]), [2, 0], [1, 2, 0]
        w.on(lot), w.without(0), w.renamed(row), ~w, w | w, w & w, w.pieces()
        self.same((w.size, w.ties, lot, row), (3, ((0, 1), (1, 2)), [2, 0], [1, 2, 0]))


class SideBySideTest(Case):

    def test_ties(self):
        webs = list(every_web(1)) + list(every_web(2)) + list(every_web(3))
        for size, ties in webs:
            for more, other in webs:
                moved = [(a + size, b + size) for a, b in other]
                between = [(a, size + b) for a in range(size) for b in range(more)]
                w, v = Web(size, ties), Web(more, other)
                self.same(((w | v).size, (w | v).ties), (size + more, tuple(sorted(list(ties) + moved))))
                self.same(((w & v).size, (w & v).ties), (size + more, tuple(sorted(list(ties) + moved + between))))
                self.assertTrue(~(w | v) == ~w & ~v)
                self.assertTrue(~(w & v) == ~w | ~v)

    def test_forty_things(self):
        self.same((Web.full(39) | Web(1)).size, 40)
        self.same((Web(1) & Web(39)).size, 40)
        self.same(len((Web.full(20) & Web.full(20)).ties), 780)

    def test_too_large(self):
        for w, v in ((Web(40), Web(1)), (Web(1), Web(40)), (Web.full(21), Web.full(20)), (Web(40), Web.full(40))):
            self.told(BadNumber, {"name": "size"}, lambda: w | v)
            self.told(BadNumber, {"name": "size"}, lambda: w & v)


if __name__ == "__main__":
    unittest.main()
