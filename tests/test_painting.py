"""Point 7: what steps come to."""

import unittest

from bothtimes.painting import painting
from tests.samples import LAST, chances, last_told, random_step

X = ("x", 1)
Y = ("y", 1)


def put(worths, low, high=None, table="staff", key="ann"):
    return ("put", table, key, worths, low, high)


def cut(low, high=None, table="staff", key="ann"):
    return ("cut", table, key, low, high)


def as_steps(painted):
    return tuple(put(worths, low, high, table, key) if worths is not None else cut(low, high, table, key)
                 for table, key, low, high, worths in painted)


class Painting(unittest.TestCase):
    def check(self, steps, *pieces):
        """Compare with pieces of the one key ann of staff."""
        self.assertEqual(painting(tuple(steps)), tuple(("staff", "ann") + piece for piece in pieces))

    def test_none_and_one(self):
        self.check([])
        self.check([put(X, 3, 9)], (3, 9, X))
        self.check([cut(3, 9)], (3, 9, None))
        self.check([cut(3)], (3, None, None))

    def test_over_one_another(self):
        self.check([put(X, 3, 9), put(Y, 5, 12)], (3, 5, X), (5, 12, Y))
        self.check([put(X, 3, 9), put(Y, 0, 5)], (0, 5, Y), (5, 9, X))
        self.check([put(X, 3, 9), put(Y, 0, 12)], (0, 12, Y))
        self.check([put(X, 3, 9), put(Y, 3, 9)], (3, 9, Y))
        self.check([put(X, 3, 9), put(X, 5, 12)], (3, 12, X))

    def test_touching(self):
        self.check([put(X, 3, 5), put(X, 5, 9)], (3, 9, X))
        self.check([put(X, 5, 9), put(X, 3, 5)], (3, 9, X))
        self.check([put(X, 3, 5), put(Y, 5, 9)], (3, 5, X), (5, 9, Y))
        self.check([cut(3, 5), cut(5, 9)], (3, 9, None))
        self.check([put(X, 3, 5), cut(5, 9)], (3, 5, X), (5, 9, None))
        self.check([put(X, 3, 5), put(X, 6, 9)], (3, 5, X), (6, 9, X))
        self.check([put(X, 0, 3), put(X, 5, 8), put(X, 3, 5)], (0, 8, X))

    def test_within_one_another(self):
        self.check([put(X, 0, 9), put(Y, 3, 5)], (0, 3, X), (3, 5, Y), (5, 9, X))
        self.check([put(X, 0, 9), cut(3, 5)], (0, 3, X), (3, 5, None), (5, 9, X))
        self.check([cut(0, 9), put(X, 3, 5)], (0, 3, None), (3, 5, X), (5, 9, None))
        self.check([put(X, 0, 9), put(Y, 3, 5), put(X, 3, 5)], (0, 9, X))

    def test_without_an_end(self):
        self.check([put(X, 0), put(Y, 3, 5)], (0, 3, X), (3, 5, Y), (5, None, X))
        self.check([put(X, 0), cut(3)], (0, 3, X), (3, None, None))
        self.check([put(X, 0, LAST), put(Y, LAST)], (0, LAST, X), (LAST, None, Y))

    def test_a_step_twice(self):
        self.check([put(X, 3, 9), put(X, 3, 9)], (3, 9, X))
        self.check([put(X, 3, 9), put(Y, 5, 7), put(X, 3, 9)], (3, 9, X))
        self.check([cut(3, 9), cut(3, 9)], (3, 9, None))

    def test_worths_of_no_columns_are_no_cut(self):
        steps = (put((), 0, 3, "tag", "a"), cut(3, 5, "tag", "a"), put((), 5, 6, "tag", "a"))
        self.assertEqual(painting(steps), (("tag", "a", 0, 3, ()), ("tag", "a", 3, 5, None), ("tag", "a", 5, 6, ())))
        zero = (put((0,), 0, 3, "team", "a"), cut(3, 5, "team", "a"), put((None,), 5, 6, "team", "a"))
        self.assertEqual([piece[4] for piece in painting(zero)], [(0,), None, (None,)])

    def test_unlike_keys_mixed_rise(self):
        steps = (put(X, 5, 9, key="bob"), put((), 4, 6, "tag", "ann"), put(X, 7, 9), cut(0, 1, "tag", "ann"),
                 put(Y, 0, 2, key="bob"), cut(1, 3), put(X, 6, 7, "aside", "zoe"))
        self.assertEqual(painting(steps), (
            ("aside", "zoe", 6, 7, X), ("staff", "ann", 1, 3, None), ("staff", "ann", 7, 9, X),
            ("staff", "bob", 0, 2, Y), ("staff", "bob", 5, 9, X), ("tag", "ann", 0, 1, None), ("tag", "ann", 4, 6, ()),
        ))

    def test_as_steps_it_comes_to_the_same_again(self):
        for chance in chances(200, 7):
            told = painting(tuple(random_step(chance) for number in range(chance.randrange(9))))
            self.assertEqual(painting(as_steps(told)), told)

    def test_by_a_plain_walk(self):
        for chance in chances(200, 8):
            steps = tuple(random_step(chance) for number in range(chance.randrange(9)))
            told = painting(steps)
            self.check_few(told)
            for table in ("staff", "tag", "team"):
                for key in ("a", "b"):
                    self.check_days(steps, [piece[2:] for piece in told if piece[:2] == (table, key)], table, key)

    def check_few(self, told):
        self.assertEqual([piece[:3] for piece in told], sorted({piece[:3] for piece in told}))
        for one, other in zip(told, told[1:]):
            if one[:2] == other[:2]:
                self.assertTrue(one[3] < other[2] or (one[3] == other[2] and one[4] != other[4]))

    def check_days(self, steps, pieces, table, key):
        for day in range(20):
            held = [worths for low, high, worths in pieces if low <= day and (high is None or day < high)]
            last = last_told(((0, steps),), table, key, day, None)
            due = [] if last is None else [last[2][3] if last[2][0] == "put" else None]
            self.assertEqual(held, due)

    def test_two_hundred_steps_of_far_days(self):
        steps = tuple(put((None, number), number * 10 ** 9, LAST - number * 10 ** 9) for number in range(200))
        told = painting(steps)
        self.assertEqual(len(told), 399)
        self.assertEqual(told[199], ("staff", "ann", 199 * 10 ** 9, LAST - 199 * 10 ** 9, (None, 199)))


if __name__ == "__main__":
    unittest.main()
