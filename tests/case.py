"""The base of the test cases."""

import unittest


class Case(unittest.TestCase):

    def same(self, got, want):
        """The values are equal, down to the kinds of everything in them."""
        self.assertEqual(repr(got), repr(want))

    def told(self, error, attributes, call, *args, **named):
        """The call raises just this error, with just these attributes; returns what was raised."""
        try:
            value = call(*args, **named)
        except Exception as caught:
            self.assertIs(caught.__class__, error)
            for name, worth in attributes.items():
                self.same(getattr(caught, name), worth)
            return caught
        self.fail(f"{error.__name__} expected, returned {value!r}")


def strange_things(size):
    """Values that are no things of a web or order of this size."""
    return [True, False, -1, size, size + 1, 1.0, 0.0, "0", "", None, (0,), [0], {}, b"0", 10 ** 30]


def strange_wholes():
    """Values that are no list and no tuple."""
    return [None, 0, 1, True, "01", "", {0: 1}, {0, 1}, range(2), b"01", iter([0, 1]), 1.5]


def strange_pairs(size):
    """Values that are no list or tuple of two different things."""
    pairs = [[], [0], (0,), [0, 1, 1], (0, 0), [1, 1], "01", None, 3, {0: 1, 1: 0}, {0, 1}, range(2), ((0, 1),)]
    return pairs + [(0, thing) for thing in strange_things(size)] + [[thing, 1] for thing in strange_things(size)]
