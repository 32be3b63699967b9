"""Rows in line with an order: how many there are, their jumps, and words below an order."""

from ordersbehind.checks import is_several, is_whole, row_of
from ordersbehind.errors import BadSizes, NotInLine, TooMany
from ordersbehind.masks import all_of, has_thing, mask_of
from ordersbehind.ranks import places_in
from ordersbehind.rowcounts import check_few, count_rows, mixtures, ready_in
from ordersbehind.wood import Wood

MOST_LISTED = 5000

# So many bits hold the number of all rows of 14 things.
COUNT_BITS = 40


def backward_arrow(order, row):
    """The least arrow (a, b) of the order with b ahead of a in the row, None if the row is in line."""
    places = places_in(row)
    for first, second in order.arrows:
        if places[second] < places[first]:
            return first, second
    return None


def in_line(order, row):
    return backward_arrow(order, row_of(order.size, row)) is None


def check_in_line(order, row):
    """Raises NotInLine if the row is not in line with the order."""
    arrow = backward_arrow(order, row)
    if arrow is not None:
        first, second = arrow
        raise NotInLine(first, second)


def all_lines(order):
    """All rows in line with the order, ascending; as many beginnings as rows at the most are held at once."""
    rows = [()]
    for _ in range(order.size):
        rows = [row + (thing,) for row in rows for thing in ready_in(order.downs, mask_of(row))]
    return rows


def lines_of(order):
    """All rows in line with the order, one after the other, ascending."""
    if count_lines(order) > MOST_LISTED:
        raise TooMany("rows")
    yield from all_lines(order)


def count_lines(order):
    """The number of rows in line with the order."""
    check_few(order.size)
    return count_rows(order.downs)


def jumps(order, row):
    """The number of neighbours in the row that are not tied in the order's web."""
    row = row_of(order.size, row)
    check_in_line(order, row)
    return len([first for first, second in zip(row, row[1:]) if not has_thing(order.ups[first], second)])


def longer_rows(order, counts):
    """The counts of the rows with one thing more.

    The keys are the mask of the things in a row and its last thing. The numbers of such rows with 0, 1, 2
    and so on jumps are packed into one integer, COUNT_BITS bits for each, so that a jump is a shift.
    """
    longer = {}
    for (met, last), packed in counts.items():
        for thing in ready_in(order.downs, met):
            jump = 0 if has_thing(order.ups[last], thing) else COUNT_BITS
            key = (met | (1 << thing), thing)
            longer[key] = longer.get(key, 0) + (packed << jump)
    return longer


def jump_counts(order):
    """For each number of jumps how many rows in line have just so many."""
    check_few(order.size)
    counts = {(1 << thing, thing): 1 for thing in order.bottoms()}
    for _ in range(order.size - 1):
        counts = longer_rows(order, counts)
    packed = sum(list(counts.values()))
    return tuple([(packed >> (COUNT_BITS * many)) & all_of(COUNT_BITS) for many in range(order.size)])


def sizes_of(order, sizes):
    """The sizes, a list or tuple of one integer from 1 on for each thing."""
    if not is_several(sizes) or len(sizes) != order.size:
        raise BadSizes(-1)
    for place, size in enumerate(sizes):
        if not is_whole(size) or size < 1:
            raise BadSizes(place)
    return sizes


def letters_told(sizes):
    """For each thing the mask of its letters; the letters of all things are numbered one after the other."""
    masks = []
    start = 0
    for size in sizes:
        masks.append(all_of(size) << start)
        start = start + size
    return masks


def letter_aheads(order, sizes):
    """For each letter the mask of the letters that stand ahead of it, those of its own thing by number."""
    letters = letters_told(sizes)
    aheads = []
    for thing, size in enumerate(sizes):
        below = 0
        for other in order.below(thing):
            below = below | letters[other]
        for _ in range(size):
            aheads.append(below | (letters[thing] & all_of(len(aheads))))
    return aheads


def words_below(order, sizes):
    """The number of words that have each thing as often as the sizes say and obey the arrows."""
    sizes = sizes_of(order, sizes)
    check_few(sum(sizes))
    return count_rows(letter_aheads(order, sizes))


def factor_at(knot, order):
    """The knot's factor of the number of rows in line with an order behind the web."""
    sizes = [len(child) for child in knot.children]
    if knot.kind == Wood.FULL:
        return 1
    if knot.kind == Wood.FREE:
        return mixtures(sizes)
    return words_below(order.on(knot.leaders()), sizes)


def count_by_wood(behind):
    """The number of rows in line with each order behind the web."""
    order = behind.at(0)
    many = 1
    for knot in behind.wood.knots:
        many = many * factor_at(knot, order)
    return many
