"""Listings of desks, character by character."""

import unittest

from ordersbehind.behind import Behind
from ordersbehind.counts import count_orders
from ordersbehind.desks import Desk
from ordersbehind.errors import BadThing
from ordersbehind.listings import listing, thing_line
from ordersbehind.orders import Order
from ordersbehind.webs import Web
from tests.case import Case, strange_things
from tests.plainly import HAT, LONE, MIXED, PATH, Look, middling_webs

MIXED_LINES = """things 7, ties 13, orders 8, deeds 1
  0: below -; above 1 2 6
  1: below 0 3; above 2 6
  2: below 0 1 3; above 6
  3: below -; above 1 2 4 5 6
  4: below 3; above 6
  5: below 3; above 6
  6: below 0 1 2 3 4 5; above -
full  0 1 2 3 4 5 6: 0 1
firm  0 1 2 3 4 5: 0
full  1 2: 0 1
"""


def spaced(numbers):
    return " ".join(str(number) for number in numbers)


def own_listing(desk):
    """The listing from a look at the web and at the arrows of the order."""
    look, arrows = Look(desk.web.size, desk.web.ties), desk.order.arrows
    lines = [f"things {look.size}, ties {len(look.ties)}, orders {count_orders(desk.web)}, deeds {desk.many}"]
    for thing in look.things:
        below = spaced(a for a, b in arrows if b == thing)
        above = spaced(b for a, b in arrows if a == thing)
        lines.append(" " * (3 - len(str(thing))) + f"{thing}: below {below or '-'}; above {above or '-'}")
    for lot in look.knots():
        kind, children = look.kind(lot), look.children(lot)
        if kind == "full":
            leaders = [child[0] for child in children]
            row = sorted(range(len(leaders)), key=lambda i: sum((other, leaders[i]) in arrows for other in leaders))
            lines.append(f"full  {spaced(lot)}: {spaced(row)}")
        if kind == "firm":
            least = min(tie for tie in look.ties if look.parting(*tie) == lot)
            lines.append(f"firm  {spaced(lot)}: {0 if least in arrows else 1}")
    return "".join(line + "\n" for line in lines)


class ListingTest(Case):

    def test_known(self):
        desk = Desk(Web(*MIXED))
        desk.ask(0, 1)
        self.same(listing(desk), MIXED_LINES)
        self.same(listing(Desk(Web(1))), "things 1, ties 0, orders 1, deeds 0\n  0: below -; above -\n")
        self.same(listing(Desk(Web(2, [(0, 1)]), order=Order(2, [(1, 0)]))),
                  "things 2, ties 1, orders 2, deeds 0\n  0: below 1; above -\n  1: below -; above 0\nfull  0 1: 1 0\n")
        self.same(listing(Desk(Web(*LONE))).split("\n")[7:], ["full  0 1 2 3 4: 0 1", "firm  0 1 2 3: 0", ""])

    def test_against_own_listing(self):
        for told in middling_webs():
            if count_orders(Web(*told)) > 0:
                b = Behind(Web(*told))
                for number in sorted({0, b.many // 2, b.many - 1}):
                    desk = Desk(b.web, order=b.at(number))
                    self.same(listing(desk), own_listing(desk))
                    self.same([thing_line(desk, thing) for thing in range(b.web.size)],
                              own_listing(desk).split("\n")[1:b.web.size + 1])

    def test_two_digits(self):
        desk = Desk(Web.full(12))
        self.same([thing_line(desk, thing) for thing in (0, 9, 10, 11)],
                  ["  0: below -; above 1 2 3 4 5 6 7 8 9 10 11", "  9: below 0 1 2 3 4 5 6 7 8; above 10 11",
                   " 10: below 0 1 2 3 4 5 6 7 8 9; above 11", " 11: below 0 1 2 3 4 5 6 7 8 9 10; above -"])
        self.same(listing(desk).split("\n")[0], "things 12, ties 66, orders 479001600, deeds 0")
        self.same(listing(desk).split("\n")[-2], "full  0 1 2 3 4 5 6 7 8 9 10 11: 0 1 2 3 4 5 6 7 8 9 10 11")
        desk = Desk(Web(40))
        self.same(listing(desk).count("\n"), 41)
        self.same(thing_line(desk, 39), " 39: below -; above -")

    def test_deeds(self):
        desk = Desk(Web(*PATH))
        for number in range(11):
            desk.ask(number % 2, 1 - number % 2)
        self.same(listing(desk).split("\n")[0], "things 4, ties 3, orders 2, deeds 11")
        desk.put([0, 1, 2, 3])
        self.same(listing(desk).split("\n")[0], "things 5, ties 7, orders 4, deeds 12")
        self.same(listing(desk), own_listing(desk))
        desk.back()
        self.same(listing(desk), own_listing(desk))

    def test_nested(self):
        w = (Web(*PATH) & Web.full(2)) | (Web(*HAT) & Web(3))
        desk = Desk(w)
        self.same(listing(desk), own_listing(desk))

    def test_errors(self):
        for value in strange_things(4):
            self.told(BadThing, {"name": "thing"}, thing_line, Desk(Web(*PATH)), value)


if __name__ == "__main__":
    unittest.main()
