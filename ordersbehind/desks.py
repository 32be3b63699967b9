"""Desks: a web and an order behind it, kept up to date through all deeds."""

from ordersbehind.behind import Behind
from ordersbehind.checks import is_several, lot_of, thing_of
from ordersbehind.counts import made_one
from ordersbehind.deeds import Asked, Fused, Out, Placed, Put
from ordersbehind.errors import BadDeed, BadThing, NothingDone, TooMany
from ordersbehind.forcing import check_tied
from ordersbehind.grafts import graft, graft_order, order_made_one
from ordersbehind.growing import with_thing
from ordersbehind.majority import nearest, turned_ties
from ordersbehind.orders import check_behind
from ordersbehind.walks import asked

MOST_DEEDS = 200


def first_order(web, order):
    """The order, or the one with the number 0 behind the web if it is None."""
    if order is None:
        return Behind(web).at(0)
    check_behind(order, web)
    return order


class Desk:
    """A web and an order behind it. What is kept is, for each deed, its word, and web and order from before it."""

    def __init__(self, web, *, order=None):
        self.web = web
        self.order = first_order(web, order)
        self.kept = ()

    @property
    def many(self):
        """The number of kept deeds."""
        return len(self.kept)

    def history(self):
        """The words of the kept deeds, the earliest first."""
        return tuple([deed[0] for deed in self.kept])

    def put(self, near):
        """A new thing that is tied to the things of near; returns how many old ties are turned."""
        check_room(self)
        web = with_thing(self.web, near)
        return keep_turned(self, "put", web, nearest(self.order, web))

    def out(self, thing):
        """The thing is left out; returns 0."""
        check_room(self)
        keep(self, "out", self.web.without(thing), self.order.without(thing))
        return 0

    def ask(self, first, second):
        """The order becomes the asked order for the arrow; returns how many ties are turned."""
        check_room(self)
        check_two_tied(self.web, first, second)
        return keep_turned(self, "asked", self.web, order_asked(self, (first, second)))

    def put_in(self, thing, guest, guest_order):
        """The guest takes the place of the thing; returns 0."""
        check_room(self)
        web = graft(self.web, thing, guest)
        check_behind(guest_order, guest)
        keep(self, "placed", web, graft_order(self.order, thing, guest_order))
        return 0

    def fuse(self, lot):
        """The lot, a part of the web, is made one thing; returns 0."""
        check_room(self)
        web = made_one(self.web, lot)
        keep(self, "fused", web, order_made_one(self.order, lot_of(self.web.size, lot)))
        return 0

    def do(self, deed):
        """Does the deed and returns what its method returns."""
        if not is_deed(deed):
            raise BadDeed(0)
        if isinstance(deed, Put):
            return self.put(deed.neighbours)
        if isinstance(deed, Out):
            return self.out(deed.thing)
        if isinstance(deed, Asked):
            return self.ask(deed.first, deed.second)
        if isinstance(deed, Placed):
            return self.put_in(deed.thing, deed.guest, deed.guest_order)
        return self.fuse(deed.lot)

    def do_all(self, deeds):
        """Does the deeds one after another, or none of them; returns what each returned."""
        check_deeds(deeds)
        desk = copy_of(self)
        numbers = [desk.do(deed) for deed in deeds]
        self.web = desk.web
        self.order = desk.order
        self.kept = desk.kept
        return tuple(numbers)

    def trial(self, deeds):
        """A new desk as this one would be after the deeds, without kept deeds."""
        desk = copy_of(self)
        desk.do_all(deeds)
        desk.kept = ()
        return desk

    def back(self):
        """Takes the last kept deed back and returns its word."""
        if self.many == 0:
            raise NothingDone()
        word, web, order = self.kept[-1]
        self.web = web
        self.order = order
        self.kept = self.kept[:-1]
        return word

    def number_told(self):
        """The number of the order behind the web."""
        return Behind(self.web).number_of(self.order)

    def __eq__(self, other):
        return isinstance(other, Desk) and self.web == other.web and self.order == other.order


def copy_of(desk):
    """A new desk that keeps the same deeds."""
    copied = Desk(desk.web, order=desk.order)
    copied.kept = desk.kept
    return copied


def check_room(desk):
    """Raises TooMany if no deed more can be kept."""
    if desk.many >= MOST_DEEDS:
        raise TooMany("deeds")


def keep(desk, word, web, order):
    """Keeps a deed that leads to the web and the order."""
    desk.kept = desk.kept + ((word, desk.web, desk.order),)
    desk.web = web
    desk.order = order


def keep_turned(desk, word, web, order):
    """Keeps a deed that leaves out no thing; returns how many of the old order's arrows it turns."""
    turned = turned_ties(desk.order, order)
    keep(desk, word, web, order)
    return turned


def check_two_tied(web, first, second):
    """Raises BadThing or NotTied if these are not two tied things."""
    thing_of(web.size, first, "first")
    thing_of(web.size, second, "second")
    if first == second:
        raise BadThing("second")
    check_tied(web, (first, second))


def order_asked(desk, arrow):
    """The asked order for the arrow of the desk's web."""
    return desk.order if arrow in desk.order else asked(Behind(desk.web), desk.order, arrow)


def is_deed(value):
    return isinstance(value, (Put, Out, Asked, Placed, Fused))


def check_deeds(deeds):
    """Raises BadDeed if the value is no list or tuple of deeds."""
    if not is_several(deeds):
        raise BadDeed(-1)
    for place, deed in enumerate(deeds):
        if not is_deed(deed):
            raise BadDeed(place)
