"""Deeds and their texts: points 196 and 197."""

import unittest

from ordersbehind.deeds import Asked, Deed, Fused, Out, Placed, Put, deed_text
from ordersbehind.orders import Order
from ordersbehind.webs import Web
from tests.case import Case, strange_wholes


class DeedsTest(Case):

    def test_classes(self):
        for one in (Put, Out, Asked, Placed, Fused):
            self.assertEqual(one.__bases__, (Deed,))
            self.assertIn("word", vars(one))
        self.assertIn("word", vars(Deed))

    def test_words(self):
        w, p = Web(3), Order(3)
        deeds = [Deed(), Put(()), Out(0), Asked(0, 1), Placed(0, w, p), Fused([0])]
        self.same([deed.word() for deed in deeds], ["none", "put", "out", "asked", "placed", "fused"])

    def test_attributes(self):
        w, p = Web(3), Order(3)
        placed = Placed(2, w, p)
        self.assertTrue(placed.guest is w and placed.guest_order is p)
        self.same((placed.thing, Out(7).thing, Asked(3, 1).first, Asked(3, 1).second), (2, 7, 3, 1))
        self.same((Put([2, 0, 1]).neighbours, Put((2, 0)).neighbours, Put([]).neighbours), ((2, 0, 1), (2, 0), ()))
        self.same((Fused([2, 0, 1]).lot, Fused((2, 0)).lot, Fused(()).lot), ((2, 0, 1), (2, 0), ()))

    def test_nothing_is_examined(self):
        for value in strange_wholes():
            self.assertIs(Put(value).neighbours, value)
            self.assertIs(Fused(value).lot, value)
            self.assertIs(Out(value).thing, value)
            self.assertIs(Asked(value, 0).first, value)
            self.assertIs(Asked(0, value).second, value)
            placed = Placed(value, value, value)
            self.assertTrue(placed.thing is value and placed.guest is value and placed.guest_order is value)
        self.same((Put([True, "a", None, 99]).neighbours, Fused([5, 5, -1]).lot), ((True, "a", None, 99), (5, 5, -1)))

    def test_lists_are_kept_as_they_were(self):
        lot = [2, 0]
        put, fused = Put(lot), Fused(lot)
        lot.append(1)
        lot[0] = 9
        self.same((put.neighbours, fused.lot), ((2, 0), (2, 0)))

    def test_texts(self):
        w = Web(3)
        self.same([deed_text(deed) for deed in (Put([3, 0, 12]), Put(()), Out(7), Asked(1, 0), Fused((2, 1)), Fused([]))],
                  ["put 3 0 12", "put", "out 7", "asked 1 0", "fused 2 1", "fused"])
        self.same([deed_text(Placed(2, w, Order(3))), deed_text(Placed(0, Web(1), Order(1))),
                   deed_text(Placed(39, Web(40), None))], ["placed 2 (3 things)", "placed 0 (1 things)",
                                                           "placed 39 (40 things)"])
        self.same(deed_text(Deed()), "none")


if __name__ == "__main__":
    unittest.main()
