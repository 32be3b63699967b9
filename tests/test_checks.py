"""The checks of arguments: points 1, 3, 10 and 11."""

import unittest

from ordersbehind.checks import arrows_of, lot_of, number_of_kind, pair_of, row_of, thing_of, ties_of
from ordersbehind.errors import BadLot, BadNumber, BadPair, BadRow, BadThing
from tests.case import Case, strange_pairs, strange_things, strange_wholes


class ThingTest(Case):

    def test_good(self):
        for size in (1, 2, 40):
            for thing in range(size):
                self.same(thing_of(size, thing), thing)
                self.same(thing_of(size, thing, "first"), thing)

    def test_bad(self):
        for size in (1, 2, 40):
            for value in strange_things(size):
                self.told(BadThing, {"name": "thing"}, thing_of, size, value)
                self.told(BadThing, {"name": "second"}, thing_of, size, value, "second")
                self.told(BadThing, {"name": "low"}, thing_of, size, value, name="low")


class LotTest(Case):

    def test_good(self):
        self.same(lot_of(4, [2, 0, 3]), (0, 2, 3))
        self.same(lot_of(4, (3,)), (3,))
        self.same(lot_of(1, [0]), (0,))
        self.same(lot_of(40, list(range(39, -1, -1))), tuple(range(40)))
        self.same(lot_of(4, (2, 1), empty=True), (1, 2))

    def test_empty(self):
        for things in ((), []):
            self.same(lot_of(4, things, empty=True), ())
            self.told(BadLot, {"place": -1}, lot_of, 4, things)
            self.told(BadLot, {"place": -1}, lot_of, 4, things, empty=False)

    def test_whole(self):
        for value in strange_wholes():
            self.told(BadLot, {"place": -1}, lot_of, 4, value)
            self.told(BadLot, {"place": -1}, lot_of, 4, value, empty=True)

    def test_first_bad_index(self):
        for value in strange_things(4):
            self.told(BadLot, {"place": 0}, lot_of, 4, [value])
            self.told(BadLot, {"place": 1}, lot_of, 4, (3, value, 3), empty=True)
            self.told(BadLot, {"place": 2}, lot_of, 4, [0, 1, value, value])
        self.told(BadLot, {"place": 1}, lot_of, 4, [2, 2, 9])
        self.told(BadLot, {"place": 3}, lot_of, 4, (2, 0, 1, 0, 3))
        self.told(BadLot, {"place": 4}, lot_of, 4, (2, 0, 1, 3, 1))

    def test_argument_stays(self):
        things = [2, 0, 3]
        lot = lot_of(4, things)
        self.assertEqual(things, [2, 0, 3])
        things.append(1)
        self.same(lot, (0, 2, 3))


class RowTest(Case):

    def test_good(self):
        self.same(row_of(3, [2, 0, 1]), (2, 0, 1))
        self.same(row_of(1, (0,)), (0,))
        self.same(row_of(40, list(range(39, -1, -1))), tuple(range(39, -1, -1)))

    def test_whole(self):
        for value in strange_wholes() + [(), [], [0], (0, 1), [0, 1, 2, 0], (0, 1, 2, 3), [9, 9], "012", {0, 1, 2}]:
            self.told(BadRow, {"place": -1}, row_of, 3, value)

    def test_first_bad_index(self):
        for value in strange_things(3):
            self.told(BadRow, {"place": 0}, row_of, 3, [value, 1, 2])
            self.told(BadRow, {"place": 1}, row_of, 3, (2, value, 2))
            self.told(BadRow, {"place": 2}, row_of, 3, [0, 1, value])
        self.told(BadRow, {"place": 1}, row_of, 3, [2, 2, 9])
        self.told(BadRow, {"place": 2}, row_of, 3, (2, 1, 2))


class PairTest(Case):

    def test_good(self):
        self.same(pair_of(3, [2, 0]), (2, 0))
        self.same(pair_of(3, (0, 2)), (0, 2))
        self.same(pair_of(40, (39, 38)), (39, 38))

    def test_bad(self):
        for size in (1, 3, 40):
            for value in strange_pairs(size):
                self.told(BadPair, {"place": 0}, pair_of, size, value)


class PairsTest(Case):

    def test_good(self):
        self.same(ties_of(4, []), ())
        self.same(arrows_of(4, ()), ())
        self.same(ties_of(4, [[3, 1], (0, 2), (1, 0)]), ((0, 1), (0, 2), (1, 3)))
        self.same(arrows_of(4, ((3, 1), [0, 2], (1, 0))), ((0, 2), (1, 0), (3, 1)))
        self.same(arrows_of(3, ((0, 1), (1, 2), (2, 0))), ((0, 1), (1, 2), (2, 0)))
        self.same(ties_of(40, [(39, 0)]), ((0, 39),))

    def test_whole(self):
        for value in strange_wholes():
            self.told(BadPair, {"place": -1}, ties_of, 3, value)
            self.told(BadPair, {"place": -1}, arrows_of, 3, value)

    def test_bad_entry(self):
        for call in (ties_of, arrows_of):
            for value in strange_pairs(3):
                self.told(BadPair, {"place": 0}, call, 3, [value, (0, 1)])
                self.told(BadPair, {"place": 1}, call, 3, ((0, 2), value, value))
                self.told(BadPair, {"place": 2}, call, 3, [(0, 1), [2, 1], value])

    def test_met_again(self):
        for call in (ties_of, arrows_of):
            for again in ((0, 2), (2, 0), [0, 2], [2, 0]):
                self.told(BadPair, {"place": 1}, call, 3, [(0, 2), again, (5, 5)])
                self.told(BadPair, {"place": 2}, call, 3, ([2, 0], (1, 0), again))

    def test_argument_stays(self):
        pairs = [[2, 0], [1, 0]]
        found = arrows_of(3, pairs), ties_of(3, pairs)
        self.assertEqual(pairs, [[2, 0], [1, 0]])
        pairs[0][1] = 1
        pairs.append([0, 1])
        self.same(found, (((1, 0), (2, 0)), ((0, 1), (0, 2))))


class NumberTest(Case):

    def test_bounds(self):
        for value in (-3, 0, 5):
            self.same(number_of_kind(value, -3, 5, "many"), value)
        self.same(number_of_kind(7, 7, 7, "many"), 7)
        self.same(number_of_kind(10 ** 50, 0, 10 ** 50, "many"), 10 ** 50)
        for value in (-4, 6, 10 ** 50, -10 ** 50):
            self.told(BadNumber, {"name": "many"}, number_of_kind, value, -3, 5, "many")
        self.told(BadNumber, {"name": "number"}, number_of_kind, 0, 0, -1, "number")

    def test_no_integer(self):
        for value in (True, False, 1.0, "1", None, [1], (1,), 2.5):
            self.told(BadNumber, {"name": "size"}, number_of_kind, value, 0, 5, "size")


if __name__ == "__main__":
    unittest.main()
