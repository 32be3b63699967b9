"""Rows carried from an order in line with them to an order that is turned at parts."""

from ordersbehind.checks import any_row_of, lot_of, row_of
from ordersbehind.lines import check_in_line
from ordersbehind.turns import check_part_of, turns


def runs_of(row, lot):
    """The longest runs of neighbours of the row that are all in the lot or all outside, the first one first."""
    runs = []
    start = 0
    for place, thing in enumerate(row):
        if place + 1 == len(row) or (thing in lot) != (row[place + 1] in lot):
            runs.append(row[start:place + 1])
            start = place + 1
    return runs


def stretches(row, lot):
    """The stretches of the lot in the row."""
    row = any_row_of(row)
    lot = lot_of(len(row), lot)
    return tuple([run for run in runs_of(row, lot) if run[0] in lot])


def row_carried(lot, row):
    """The row with the stretches of the lot from the last to the first, each of them written backwards."""
    runs = runs_of(row, lot)
    backwards = [stretch[::-1] for stretch in runs if stretch[0] in lot][::-1]
    met = 0
    found = []
    for run in runs:
        if run[0] in lot:
            found.extend(backwards[met])
            met = met + 1
        else:
            found.extend(run)
    return tuple(found)


def carried(order, lot, row):
    """The carried row."""
    lot = lot_of(order.size, lot)
    row = row_of(order.size, row)
    check_part_of(order, lot)
    check_in_line(order, row)
    return row_carried(lot, row)


class Carrier:
    """Takes rows in line with one order to rows in line with another order of the same web."""

    def __init__(self, one, other):
        self.one = one
        self.other = other
        self.steps = turns(one, other)

    def __call__(self, row):
        """The row in line with other into which a row in line with one is carried."""
        found = row_of(self.one.size, row)
        check_in_line(self.one, found)
        for lot in self.steps:
            found = row_carried(lot, found)
        return found

    def backwards(self):
        """The Carrier that takes each row back."""
        carrier = Carrier(self.other, self.one)
        carrier.steps = self.steps[::-1]
        return carrier

    def __eq__(self, other):
        return (isinstance(other, Carrier) and self.one == other.one and self.other == other.other
                and self.steps == other.steps)
