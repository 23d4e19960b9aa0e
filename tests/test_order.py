"""Point 3: the order in which things and rows rise."""

import itertools
import unittest

from bothtimes.order import rising, row_order, thing_order

THINGS = [None, -10 ** 18, -2, -1, 0, 1, 2, 10, 10 ** 18, "a", "aa", "ab", "b", "key", "z"]


class Rising(unittest.TestCase):
    def test_things(self):
        for one, other in itertools.combinations(THINGS, 2):
            self.assertLess(thing_order(one), thing_order(other))
            self.assertEqual(thing_order(one), thing_order(one))
        self.assertEqual(sorted(reversed(THINGS), key=thing_order), THINGS)

    def test_rows_thing_by_thing(self):
        rows = [(one, other) for one in THINGS for other in THINGS]
        self.assertEqual(rising(rows[::-1]), rows)
        self.assertEqual(rising(rows[50:] + rows[:50]), rows)

    def test_a_beginning_ahead_of_what_goes_on(self):
        rows = [(), (None,), (None, None), (None, "a"), (0,), (0, None), (0, 5), (0, 5, -1), (1,), ("a",), ("a", None)]
        self.assertEqual(rising(rows[::-1]), rows)
        self.assertLess(row_order(()), row_order((None,)))

    def test_each_once(self):
        self.assertEqual(rising([("a",), (1,), ("a",), (None,), (1,)]), [(None,), (1,), ("a",)])
        self.assertEqual(rising([(), ()]), [()])
        self.assertEqual(rising([]), [])


if __name__ == "__main__":
    unittest.main()
