"""How the pairs of a web or an order change when its things get other numbers."""


def pairs_on(pairs, lot):
    """The pairs between the things of the lot, which are called 0, 1 and so on in their sequence."""
    places = {thing: place for place, thing in enumerate(lot)}
    return [(places[first], places[second]) for first, second in pairs if first in places and second in places]


def all_but(size, thing):
    """All things except one."""
    return [other for other in range(size) if other != thing]


def outside_and_one(size, lot):
    """The things outside the lot, ascending, and then the least thing of the lot, which stands for it."""
    return [thing for thing in range(size) if thing not in lot] + [lot[0]]


def pairs_renamed(pairs, row):
    return [(row[first], row[second]) for first, second in pairs]


def pairs_moved(pairs, by):
    """The pairs with each thing greater by the same number."""
    return [(first + by, second + by) for first, second in pairs]


def pairs_between(size, other):
    """All pairs of one of the first things, as many as size, and one of the other things behind them."""
    return [(first, size + second) for first in range(size) for second in range(other)]
