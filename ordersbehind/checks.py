"""What arguments have to be: each function returns what was passed or raises the error named for it."""

from ordersbehind.errors import BadLot, BadNumber, BadPair, BadRow, BadThing

MOST_THINGS = 40


def is_whole(value):
    """True if the value is an integer, which True and False are not."""
    return isinstance(value, int) and not isinstance(value, bool)


def is_thing(size, value):
    return is_whole(value) and 0 <= value < size


def is_several(value):
    """True if the value is of a kind that may hold several values."""
    return isinstance(value, (list, tuple))


def is_pair(size, value):
    """True if the value is a list or tuple of two different things."""
    if not is_several(value) or len(value) != 2:
        return False
    return is_thing(size, value[0]) and is_thing(size, value[1]) and value[0] != value[1]


def first_bad_thing(size, things):
    """The first index whose entry is no thing or stood earlier, -1 if there is none."""
    met = [False] * size
    for place, thing in enumerate(things):
        if not is_thing(size, thing) or met[thing]:
            return place
        met[thing] = True
    return -1


def thing_of(size, value, name="thing"):
    if not is_thing(size, value):
        raise BadThing(name)
    return value


def lot_of(size, things, *, empty=False):
    """The lot, ascending."""
    if not is_several(things) or (len(things) == 0 and not empty):
        raise BadLot(-1)
    place = first_bad_thing(size, things)
    if place >= 0:
        raise BadLot(place)
    return tuple(sorted(things))


def row_of(size, things):
    """The row as a tuple."""
    if not is_several(things) or len(things) != size:
        raise BadRow(-1)
    place = first_bad_thing(size, things)
    if place >= 0:
        raise BadRow(place)
    return tuple(things)


def any_row_of(things):
    """The row as a tuple, of as many things as it has entries."""
    if not is_several(things) or len(things) < 1 or len(things) > MOST_THINGS:
        raise BadRow(-1)
    return row_of(len(things), things)


def pair_of(size, pair):
    """The pair as a tuple, its things as passed."""
    if not is_pair(size, pair):
        raise BadPair(0)
    return pair[0], pair[1]


def ties_of(size, pairs):
    """The ties, lesser things first, ascending."""
    return tuple(sorted([(min(pair), max(pair)) for pair in pairs_of(size, pairs)]))


def arrows_of(size, pairs):
    """The arrows, ascending."""
    return tuple(sorted(pairs_of(size, pairs)))


def pairs_of(size, pairs):
    """The pairs as a list of tuples, no two things together in two of them."""
    if not is_several(pairs):
        raise BadPair(-1)
    met = [0] * size
    found = []
    for place, pair in enumerate(pairs):
        if not is_pair(size, pair) or (met[pair[0]] >> pair[1]) & 1 == 1:
            raise BadPair(place)
        first, second = pair
        met[first] = met[first] | (1 << second)
        met[second] = met[second] | (1 << first)
        found.append((first, second))
    return found


def number_of_kind(value, low, high, name):
    """The value, an integer from low to high."""
    if not is_whole(value) or value < low or value > high:
        raise BadNumber(name)
    return value
