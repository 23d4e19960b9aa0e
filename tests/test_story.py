"""Points 4 (a), 4 (b) and 8: as known on a day, from which day on, and by which step."""

import unittest

from bothtimes.lines import found, is_line
from bothtimes.painters import painters, told_by
from bothtimes.painting import painting
from bothtimes.story import known_line, line_of, rows_at
from tests.samples import LAST, chances, last_told, random_deeds, random_step, worths_on

X = ("x", 1)
Y = ("y", 1)
Z = ("z", 1)
DEEDS = (
    (5, (("put", "staff", "ann", X, 0, 10), ("put", "staff", "bob", X, 0, None))),
    (7, (("put", "staff", "ann", Y, 4, 8),)),
    (7, (("cut", "staff", "ann", 6, 7), ("put", "tag", "ann", (), 2, 3))),
    (9, (("put", "staff", "ann", X, 4, 8), ("cut", "staff", "bob", 3, None), ("cut", "tag", "zoe", 0, None))),
)
ASKED = [(table, key) for table in ("staff", "tag", "team", "none") for key in ("a", "b", "none")]


class Line(unittest.TestCase):
    def test_known(self):
        def line(**known):
            return line_of(DEEDS, "staff", "ann", **known)
        first = ((0, 10, X),)
        second = ((0, 4, X), (4, 6, Y), (7, 8, Y), (8, 10, X))
        self.assertEqual(line(), first)
        self.assertEqual(line(known=None), first)
        self.assertEqual(line(known=0), ())
        self.assertEqual(line(known=4), ())
        self.assertEqual(line(known=5), first)
        self.assertEqual(line(known=6), first)
        self.assertEqual(line(known=7), second)
        self.assertEqual(line(known=8), second)
        self.assertEqual(line(known=9), first)
        self.assertEqual(line(known=LAST), first)

    def test_cuts(self):
        self.assertEqual(line_of(DEEDS, "staff", "bob"), ((0, 3, X),))
        self.assertEqual(line_of(DEEDS, "staff", "bob", known=8), ((0, None, X),))
        self.assertEqual(line_of(DEEDS, "tag", "zoe"), ())
        self.assertEqual(line_of(DEEDS, "tag", "ann"), ((2, 3, ()),))

    def test_what_no_deed_names(self):
        for table, key in (("staff", "zoe"), ("none", "ann"), ("team", "ann")):
            self.assertEqual(line_of(DEEDS, table, key), ())
            self.assertEqual(known_line(DEEDS, table, key, 2), ())
            self.assertEqual(painters(DEEDS, table, key), ())
            self.assertIsNone(told_by(DEEDS, table, key, 2))
        self.assertEqual(line_of((), "staff", "ann"), ())

    def test_known_by_its_name_alone(self):
        self.assertRaises(TypeError, line_of, DEEDS, "staff", "ann", 5)
        self.assertRaises(TypeError, rows_at, DEEDS, "staff", 5, 5)
        self.assertRaises(TypeError, told_by, DEEDS, "staff", "ann", 5, 5)
        self.assertRaises(TypeError, painters, DEEDS, "staff", "ann", 5)


class Rows(unittest.TestCase):
    def test_known(self):
        both = (("ann", X), ("bob", X))
        self.assertEqual(rows_at(DEEDS, "staff", 6), (("ann", X),))
        self.assertEqual(rows_at(DEEDS, "staff", 6, known=None), (("ann", X),))
        self.assertEqual(rows_at(DEEDS, "staff", 6, known=4), ())
        self.assertEqual(rows_at(DEEDS, "staff", 6, known=5), both)
        self.assertEqual(rows_at(DEEDS, "staff", 6, known=6), both)
        self.assertEqual(rows_at(DEEDS, "staff", 6, known=7), (("bob", X),))
        self.assertEqual(rows_at(DEEDS, "staff", 7, known=8), (("ann", Y), ("bob", X)))
        self.assertEqual(rows_at(DEEDS, "staff", 2), both)

    def test_edges_of_days(self):
        self.assertEqual([rows_at(DEEDS, "tag", day) for day in (1, 2, 3)], [(), (("ann", ()),), ()])
        self.assertEqual(rows_at(DEEDS, "staff", 9), (("ann", X),))
        self.assertEqual(rows_at(DEEDS, "staff", 10), ())
        self.assertEqual(rows_at(DEEDS, "staff", LAST, known=7), (("bob", X),))

    def test_what_no_deed_names(self):
        self.assertEqual(rows_at(DEEDS, "team", 2), ())
        self.assertEqual(rows_at(DEEDS, "none", 2), ())
        self.assertEqual(rows_at((), "staff", 2), ())

    def test_rising(self):
        steps = tuple(("put", "tag", key, (), 0, None) for key in ("b", "zz", "a", "ab", "z"))
        self.assertEqual([key for key, worths in rows_at(((0, steps),), "tag", 0)], ["a", "ab", "b", "z", "zz"])


class KnownLine(unittest.TestCase):
    def test_known_days(self):
        self.assertEqual(known_line(DEEDS, "staff", "ann", 4), ((5, 7, X), (7, 9, Y), (9, None, X)))
        self.assertEqual(known_line(DEEDS, "staff", "ann", 0), ((5, None, X),))
        self.assertEqual(known_line(DEEDS, "staff", "bob", 2), ((5, None, X),))
        self.assertEqual(known_line(DEEDS, "staff", "bob", 3), ((5, 9, X),))
        self.assertEqual(known_line(DEEDS, "staff", "ann", 10), ())
        self.assertEqual(known_line(DEEDS, "tag", "ann", 2), ((7, None, ()),))
        self.assertEqual(known_line(DEEDS, "tag", "zoe", 2), ())

    def test_nothing_while_it_is_known_to_be_cut(self):
        self.assertEqual(known_line(DEEDS, "staff", "ann", 6), ((5, 7, X), (9, None, X)))

    def test_several_deeds_on_one_known_day(self):
        def put(worths):
            return (("put", "staff", "ann", worths, 0, None),)
        cut = (("cut", "staff", "ann", 0, 5),)
        self.assertEqual(known_line(((3, put(X)), (3, put(Y)), (3, put(Z))), "staff", "ann", 1), ((3, None, Z),))
        self.assertEqual(known_line(((3, put(X)), (3, cut)), "staff", "ann", 1), ())
        self.assertEqual(known_line(((1, put(X)), (3, put(Y)), (3, put(X))), "staff", "ann", 1), ((1, None, X),))
        self.assertEqual(known_line(((1, put(X)), (3, cut), (3, put(X)), (4, put(X))), "staff", "ann", 1),
                         ((1, None, X),))
        self.assertEqual(known_line(((3, put(X) + cut + put(Y)),), "staff", "ann", 1), ((3, None, Y),))

    def test_fewest_pieces(self):
        deeds = tuple((day, (("put", "staff", "ann", X, 0, None),)) for day in range(10))
        self.assertEqual(known_line(deeds, "staff", "ann", 1), ((0, None, X),))


class Painters(unittest.TestCase):
    def test_numbers(self):
        self.assertEqual(painters(DEEDS, "staff", "ann"), ((0, 4, (0, 0)), (4, 8, (3, 0)), (8, 10, (0, 0))))
        self.assertEqual(painters(DEEDS, "staff", "ann", known=8),
                         ((0, 4, (0, 0)), (4, 6, (1, 0)), (6, 7, (2, 0)), (7, 8, (1, 0)), (8, 10, (0, 0))))
        self.assertEqual(painters(DEEDS, "staff", "ann", known=5), ((0, 10, (0, 0)),))
        self.assertEqual(painters(DEEDS, "staff", "ann", known=4), ())
        self.assertEqual(painters(DEEDS, "staff", "bob"), ((0, 3, (0, 1)), (3, None, (3, 1))))
        self.assertEqual(painters(DEEDS, "tag", "zoe"), ((0, None, (3, 2)),))

    def test_told_by(self):
        self.assertEqual(told_by(DEEDS, "staff", "ann", 3), (0, 0))
        self.assertEqual(told_by(DEEDS, "staff", "ann", 4), (3, 0))
        self.assertEqual(told_by(DEEDS, "staff", "ann", 4, known=None), (3, 0))
        self.assertEqual(told_by(DEEDS, "staff", "ann", 6, known=7), (2, 0))
        self.assertEqual(told_by(DEEDS, "staff", "ann", 6, known=8), (2, 0))
        self.assertEqual(told_by(DEEDS, "staff", "ann", 6, known=6), (0, 0))
        self.assertEqual(told_by(DEEDS, "staff", "bob", LAST), (3, 1))
        self.assertEqual(told_by(DEEDS, "tag", "zoe", 0), (3, 2))
        self.assertIsNone(told_by(DEEDS, "staff", "ann", 6, known=4))
        self.assertIsNone(told_by(DEEDS, "staff", "ann", 10))
        self.assertIsNone(told_by((), "staff", "ann", 0))

    def test_what_stands_already_counts_as_the_last_one(self):
        put = ("put", "staff", "ann", X, 0, 9)
        deeds = ((1, (put, put)), (2, (put,)))
        self.assertEqual(told_by(deeds, "staff", "ann", 3), (1, 0))
        self.assertEqual(told_by(deeds, "staff", "ann", 3, known=1), (0, 1))
        self.assertEqual(painters(deeds, "staff", "ann"), ((0, 9, (1, 0)),))
        self.assertEqual(painters(deeds, "staff", "ann", known=1), ((0, 9, (0, 1)),))


class Together(unittest.TestCase):
    """Points 4 (a) and 4 (b), by a plain walk over few days and known days."""

    def test_all_tell_one_and_the_same(self):
        for chance in chances(60, 9):
            deeds = random_deeds(chance)
            for known in [None] + list(range(0, 16, 3)):
                for table, key in ASKED:
                    self.check_key(deeds, table, key, known)
                for table in ("staff", "tag", "team", "none"):
                    self.check_rows(deeds, table, known)

    def check_key(self, deeds, table, key, known):
        line = line_of(deeds, table, key, known=known)
        pairs = painters(deeds, table, key, known=known)
        self.assertTrue(is_line(line) and is_line(pairs))
        for day in range(0, 18):
            last = last_told(deeds, table, key, day, known)
            self.assertEqual(found(line, day), worths_on(deeds, table, key, day, known))
            self.assertEqual(found(pairs, day), None if last is None else last[:2])
            self.assertEqual(told_by(deeds, table, key, day, known=known), found(pairs, day))

    def check_rows(self, deeds, table, known):
        for day in range(18):
            due = [(key, worths_on(deeds, table, key, day, known)) for key in ("a", "b")]
            self.assertEqual(rows_at(deeds, table, day, known=known),
                             tuple((key, worths) for key, worths in due if worths is not None))

    def test_the_line_by_known_days_tells_the_same(self):
        for chance in chances(60, 10):
            deeds = random_deeds(chance)
            for table, key in ASKED:
                for day in range(16):
                    line = known_line(deeds, table, key, day)
                    self.assertTrue(is_line(line))
                    for known in range(30):
                        self.assertEqual(found(line, known), worths_on(deeds, table, key, day, known))

    def test_what_was_known_stays_known(self):
        for chance in chances(60, 11):
            deeds = random_deeds(chance)
            last = deeds[-1][0] if deeds else 0
            more = deeds + tuple((last + 1 + number, (random_step(chance),)) for number in range(3))
            for table, key in ASKED:
                for known in range(last + 1):
                    for ask in (line_of, painters):
                        self.assertEqual(ask(more, table, key, known=known), ask(deeds, table, key, known=known))
                    self.assertEqual(told_by(more, table, key, 5, known=known), told_by(deeds, table, key, 5, known=known))
                    self.assertEqual(rows_at(more, table, 5, known=known), rows_at(deeds, table, 5, known=known))
                self.assertEqual(line_of(more, table, key, known=last), line_of(deeds, table, key))

    def test_lines_are_what_the_painting_puts(self):
        for chance in chances(60, 12):
            deeds = random_deeds(chance)
            told = painting(tuple(step for day, steps in deeds for step in steps))
            for table, key in ASKED:
                puts = tuple(piece[2:] for piece in told if piece[:2] == (table, key) and piece[4] is not None)
                self.assertEqual(line_of(deeds, table, key), puts)


class AtOnce(unittest.TestCase):
    """No day is walked by itself: these would never end otherwise."""

    def test_sixty_deeds_of_far_days(self):
        far = 10 ** 10
        many = [4] * 20 + [3] * 40
        deeds = tuple((number * far, tuple(
            ("put", "staff", "ann", (None, number * 4 + place), number * far + place, LAST - number - place)
            for place in range(steps))) for number, steps in enumerate(many))
        self.assertEqual(sum(len(steps) for day, steps in deeds), 200)
        line = line_of(deeds, "staff", "ann")
        self.assertEqual((line[0], len(line)), ((0, 1, (None, 0)), len(painters(deeds, "staff", "ann"))))
        self.assertTrue(is_line(line))
        self.assertEqual(known_line(deeds, "staff", "ann", LAST // 2)[0], (0, far, (None, 3)))
        self.assertEqual(rows_at(deeds, "staff", LAST - 100, known=3 * far), (("ann", (None, 15)),))
        self.assertEqual(told_by(deeds, "staff", "ann", LAST - 100), (59, 2))


if __name__ == "__main__":
    unittest.main()
