"""What rows spell, and the names of webs and orders: points 137 to 141."""

import random
import unittest
from functools import lru_cache

from ordersbehind.behind import Behind
from ordersbehind.crossings import crossing_web
from ordersbehind.drawings import Drawings
from ordersbehind.errors import BadRow, NoRows
from ordersbehind.names import order_name, rows_spelling, spelled, web_name
from ordersbehind.orders import Order
from ordersbehind.rings import is_odd_ring
from ordersbehind.webs import Web
from tests.case import Case, strange_things, strange_wholes
from tests.plainly import FIVE, HAT, LONE, PATH, Look, every_row, nested_webs
from tests.test_drawings import SIX, with_drawings


def own_path(size):
    return Web(size, [(a, a + 1) for a in range(size - 1)])


@lru_cache(maxsize=None)
def own_drawings(size, ties):
    """All pairs of rows that cross just at the ties, the second row told by the first one."""
    if size > 7:
        return list(Drawings(Web(size, ties)).by_number())
    look, found = Look(size, ties), []
    for one in every_row(size):
        ahead = {(a, b): (one.index(a) < one.index(b)) != look.tied(a, b) for a in range(size) for b in range(size)}
        other = sorted(range(size), key=lambda thing: sum(ahead[a, thing] for a in range(size) if a != thing))
        if all(ahead[a, b] for place, a in enumerate(other) for b in other[place + 1:]):
            found.append((one, tuple(other)))
    return found


def own_text(names, rows):
    one, other = rows
    digits = len(str(len(names) - 1))
    return "".join(f"{other.index(child):0{digits}d}{names[child]}" for child in one)


def own_name(look, lot, arrows=None):
    """The name of the lot in the web, or in an order behind the web with these arrows."""
    if len(lot) == 1:
        return "."
    children, kind = look.children(lot), look.kind(lot)
    names = [own_name(look, child, arrows) for child in children]
    if kind == "free":
        return "(" + "".join(sorted(names)) + ")"
    if kind == "full" and arrows is None:
        return "[" + "".join(sorted(names)) + "]"
    leaders = [child[0] for child in children]
    if kind == "full":
        below = sorted(range(len(leaders)), key=lambda i: sum((other, leaders[i]) in arrows for other in leaders))
        return "[" + "".join(names[i] for i in below) + "]"
    drawings = own_drawings(len(leaders), look.on(leaders).ties)
    assert len(drawings) == 4
    if arrows is not None:
        drawings = [rows for rows in drawings
                    if all(rows[0].index(i) < rows[0].index(j) for i, a in enumerate(leaders)
                           for j, b in enumerate(leaders) if (a, b) in arrows)]
        assert len(drawings) == 2
    return "<" + min(own_text(names, rows) for rows in drawings) + ">"


def own_web_name(size, ties):
    return own_name(Look(size, ties), tuple(range(size)))


def named_webs():
    """Webs with drawings, small ones and larger nested ones."""
    return with_drawings() + list(nested_webs(101, 25, 10))


class SpelledTest(Case):

    def test_to_and_fro(self):
        for size in range(1, 5):
            for places in every_row(size):
                rows = rows_spelling(list(places))
                self.same(rows[0], tuple(range(size)))
                self.same(tuple(rows[1].index(thing) for thing in range(size)), places)
                self.same(spelled(rows), places)
                for one in every_row(size):
                    found = spelled([list(one), list(places)])
                    self.same(found, tuple(places.index(thing) for thing in one))
                    self.same(sorted(rows_spelling(found)[1]), list(range(size)))

    def test_large(self):
        row = tuple(range(39, -1, -1))
        self.same(rows_spelling(row), (row[::-1], row))
        self.same(spelled((row, row)), row[::-1])

    def test_errors(self):
        for value in strange_wholes() + [(), [], [()], [(0, 1)], [(0, 1)] * 3, [(0, 1), (0,)], [list(range(41))] * 2]:
            self.told(BadRow, {"place": -1}, spelled, value)
        for value in strange_things(2):
            self.told(BadRow, {"place": 1}, spelled, [(0, 1), (0, value)])
            self.told(BadRow, {"place": 0}, spelled, [(value, 1), (0, 1)])
            self.told(BadRow, {"place": 1}, rows_spelling, [1, value])
        for value in strange_wholes() + [(), [], list(range(41)), tuple(range(50))]:
            self.told(BadRow, {"place": -1}, rows_spelling, value)
        self.told(BadRow, {"place": 2}, rows_spelling, [1, 0, 1])
        self.told(BadRow, {"place": 1}, spelled, [(0, 1), (0, 0), (0, 1)])

    def test_arguments_stay(self):
        rows, places = [[1, 0], [0, 1]], [1, 0]
        spelled(rows), rows_spelling(places)
        self.assertEqual((rows, places), ([[1, 0], [0, 1]], [1, 0]))


class WebNameTest(Case):

    def test_against_the_words(self):
        for told in named_webs():
            self.same(web_name(Web(*told)), own_web_name(*told))

    def test_known(self):
        self.same([web_name(Web(*told)) for told in (PATH, HAT, LONE, (1, ()), (3, ()), (3, ((0, 2),)))],
                  ["<1.3.0.2.>", "[.<1.3.0.2.>]", "(.[.<1.3.0.2.>])", ".", "(...)", "(.[..])"])
        self.same(web_name(Web.full(3) | Web.full(3)), "([...][...])")
        self.same((web_name(Web(40)), web_name(Web.full(40))), ("(" + "." * 40 + ")", "[" + "." * 40 + "]"))
        self.same(web_name(Web(*PATH) & Web(2)), "[(..)<1.3.0.2.>]")

    def test_two_digits(self):
        """A firm knot of ten children has one digit, one of eleven and more has two."""
        chance = random.Random(102)
        for size in (9, 10, 11, 12, 40):
            w = own_path(size)
            name = web_name(w)
            self.same(len(name), 2 + size * (len(str(size - 1)) + 1))
            texts = [own_text(["."] * size, rows) for rows in Drawings(w).by_number()]
            self.same((len(texts), name), (4, "<" + min(texts) + ">"))
            self.same(web_name(w.renamed(tuple(chance.sample(range(size), size)))), name)
        # The first child of eleven has two things.
        w = Web(12, [(a, a + 1) for a in range(10)] + [(11, 1)])
        self.assertIn("(..)", web_name(w))
        self.same(web_name(w), "<" + min(own_text(["(..)"] + ["."] * 10, rows)
                                         for rows in Drawings(own_path(11)).by_number()) + ">")

    def test_alike_webs_have_one_name(self):
        chance = random.Random(103)
        for told in named_webs()[::2]:
            w = Web(*told)
            row = list(range(w.size))
            chance.shuffle(row)
            self.same(web_name(w.renamed(row)), web_name(w))

    def test_no_rows(self):
        for told, contrary in ((FIVE, False), (SIX, True)):
            error = self.told(NoRows, {"contrary": contrary}, web_name, Web(*told))
            w = ~Web(*told) if contrary else Web(*told)
            self.same(is_odd_ring(w, error.ring), True)
            self.same(len(error.ring), Look(w.size, w.ties).least_ring(w.ties))
        self.told(NoRows, {"contrary": False}, web_name, Web(*FIVE) | Web(*SIX))


class OrderNameTest(Case):

    def test_against_the_words(self):
        for told in named_webs():
            b, look = Behind(Web(*told)), Look(*told)
            for number in sorted({0, 1 % b.many, b.many // 3, b.many // 2, b.many - 1}):
                p = b.at(number)
                self.same(order_name(p), own_name(look, look.things, p.arrows))

    def test_known(self):
        self.same(order_name(Order(1)), ".")
        self.same(order_name(Order.along(tuple(range(40)))), "[" + "." * 40 + "]")
        self.same([order_name(Order(3, [(0, 2), (1, 2)])), order_name(Order(3, [(2, 0), (2, 1)]))],
                  ["[(..).]", "[.(..)]"])
        self.same(order_name(Order(4, [(0, 1), (2, 1), (2, 3)])), "<1.3.0.2.>")
        p = Order(2) & Order.along((0, 1))
        self.same((order_name(p), order_name(p | Order(1))), ("[(..)..]", "(.[(..)..])"))

    def test_firm_of_two_names(self):
        """A firm knot whose two orders are not alike."""
        b = Behind(own_path(5))
        self.assertNotEqual(order_name(b.at(0)), order_name(b.at(1)))
        self.same(web_name(b.web), min(order_name(b.at(0)), order_name(b.at(1))))

    def test_two_digits(self):
        for size in (10, 11, 13):
            d = Drawings(own_path(size))
            for p in d.tied_part.by_number():
                texts = [own_text(["."] * size, rows) for rows in d.by_number()
                         if all(rows[0].index(a) < rows[0].index(b) for a, b in p.arrows)]
                self.same((len(texts), order_name(p)), (2, "<" + min(texts) + ">"))

    def test_no_rows(self):
        for p in Behind(Web(*SIX)).by_number():
            error = self.told(NoRows, {"contrary": True}, order_name, p)
            self.same(is_odd_ring(~Web(*SIX), error.ring), True)

    def test_rows_of_one_web(self):
        for told in named_webs()[::3]:
            d = Drawings(Web(*told))
            for number in sorted({0, d.many - 1}):
                self.same(web_name(crossing_web(rows_spelling(spelled(d.rows(number))))), web_name(d.web))


if __name__ == "__main__":
    unittest.main()
