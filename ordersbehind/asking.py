"""Finding an order behind a web by asking for ties, and answering so that many asks are needed."""

from math import factorial

from ordersbehind.checks import arrows_of, pair_of
from ordersbehind.demands import barred_place, closure_of, demands_of, order_demanded
from ordersbehind.errors import NotHeld, TooMany
from ordersbehind.forcing import arrow_of, check_tied
from ordersbehind.masks import has_thing
from ordersbehind.rowcounts import count_rows
from ordersbehind.standings import count_sides, is_full_at, name_between, rows_told, stand_of
from ordersbehind.wishes import count_held, wishes_of

MOST_SOLVED = 4
MOST_CHILDREN = 12


def all_sides(behind):
    """How many sides each knot that chooses has."""
    return [count_sides(behind, place) for place in range(len(behind.places))]


def asks_at_most(behind):
    """How many asks are enough for every order: each child is put among the earlier ones by halving."""
    return sum([earlier.bit_length() for many in all_sides(behind) for earlier in range(1, many)])


def asks_at_least(behind):
    """How many asks are needed for some order, because each ask has two answers."""
    return sum([(factorial(many) - 1).bit_length() for many in all_sides(behind)])


def least_asks(behind):
    """The least number of asks that are enough for every order."""
    if max(all_sides(behind), default=0) > MOST_SOLVED:
        raise TooMany("children")
    return asks_at_most(behind)


def demands_told(behind, arrows):
    """The aheads of each knot that chooses. Raises NotHeld if no order has all of the arrows."""
    demands = demands_of(behind, arrows)
    if barred_place(demands) >= 0:
        raise NotHeld()
    return demands


def is_settled(behind, demands, tie):
    """True if the demands leave one arrow of the tie alone."""
    place, one, other = stand_of(behind, tie)
    closed = closure_of(demands[place])
    return has_thing(closed[one], other) or has_thing(closed[other], one)


def idle(behind, told, tie):
    """True if the told arrows settle the tie."""
    arrows = arrows_of(behind.web.size, told)
    tie = pair_of(behind.web.size, tie)
    for arrow in arrows:
        check_tied(behind.web, arrow)
    check_tied(behind.web, tie)
    return is_settled(behind, demands_told(behind, arrows), tie)


def sides_to_ask(aheads):
    """The two sides of a knot that are asked next, None if the aheads leave one row alone."""
    closed = closure_of(aheads)
    row = [0]
    for side in range(1, len(closed)):
        low = len([other for other in row if has_thing(closed[side], other)])
        high = len([other for other in row if not has_thing(closed[other], side)])
        if low < high:
            return side, row[(low + high - 1) // 2]
        row.insert(low, side)
    return None


def stand_to_ask(demands):
    """The place and the two sides that are asked next, None if the demands leave one order alone."""
    for place, aheads in enumerate(demands):
        sides = sides_to_ask(aheads)
        if sides is not None:
            return place, sides[0], sides[1]
    return None


class Asker:
    """Asks for ties until one order alone is left."""

    def __init__(self, behind):
        self.behind = behind

    def next_ask(self, told):
        """The tie that is asked next, None if one order alone has all of the told arrows."""
        stand = stand_to_ask(demands_told(self.behind, wishes_of(self.behind.web, told)))
        if stand is None:
            return None
        place, one, other = stand
        return name_between(self.behind, place, one, other)

    def run(self, order):
        """The ties that are asked, in turn, if this order is thought of."""
        rows = rows_told(self.behind, order)
        demands = demands_of(self.behind, ())
        asks = []
        stand = stand_to_ask(demands)
        while stand is not None:
            place, one, other = stand
            asks.append(name_between(self.behind, place, one, other))
            low, high = (one, other) if rows[place].index(one) < rows[place].index(other) else (other, one)
            demands[place][high] = demands[place][high] | (1 << low)
            stand = stand_to_ask(demands)
        return tuple(asks)

    def found(self, told):
        """The order that has all told arrows, None if several have."""
        arrows = wishes_of(self.behind.web, told)
        if stand_to_ask(demands_told(self.behind, arrows)) is not None:
            return None
        return order_demanded(self.behind, arrows, False)


def rows_left(aheads, low, high):
    """The number of rows that obey the aheads and have the side low ahead of the side high."""
    wanted = list(aheads)
    wanted[high] = wanted[high] | (1 << low)
    return count_rows(wanted)


def answer_to(behind, demands, tie):
    """The arrow that the Answerer gives to a tie that the demands do not settle."""
    first, second = tie
    place, one, other = stand_of(behind, tie)
    if not is_full_at(behind, place):
        return min(tie), max(tie)
    along = rows_left(demands[place], one, other)
    against = rows_left(demands[place], other, one)
    if along > against or (along == against and one < other):
        return first, second
    return second, first


class Answerer:
    """Answers asks without thinking of an order. What remains is the number of orders that have all told arrows."""

    def __init__(self, behind):
        self.behind = behind
        self.told = ()
        self.remaining = behind.many

    @property
    def left(self):
        """How many orders behind the web have all told arrows."""
        return self.remaining

    def answer(self, tie):
        """The arrow of the tie that is answered."""
        first, second = arrow_of(self.behind.web, tie)
        place, one, other = stand_of(self.behind, (first, second))
        if is_full_at(self.behind, place) and count_sides(self.behind, place) > MOST_CHILDREN:
            raise TooMany("children")
        demands = demands_of(self.behind, self.told)
        closed = closure_of(demands[place])
        if has_thing(closed[other], one):
            return first, second
        if has_thing(closed[one], other):
            return second, first
        arrow = answer_to(self.behind, demands, (first, second))
        self.told = self.told + (arrow,)
        self.remaining = count_held(self.behind, self.told)
        return arrow

    def sure(self):
        """The order that has all told arrows, None if several have."""
        return order_demanded(self.behind, self.told, False) if self.left == 1 else None
