"""Points 2 and 5: lines."""

import unittest

from bothtimes.lines import bare, beside, first_bare, found, is_line, painted, within
from tests.samples import LAST, Odd, chances, nested, odd_things, on_day, random_line

A = ("a",)
B = ("b",)
LINE = ((2, 4, A), (4, 6, B), (9, 12, A), (20, None, 7))
DAYS = range(18)


class IsLine(unittest.TestCase):
    def accept(self, *lines):
        for line in lines:
            self.assertIs(is_line(line), True, line)

    def refuse(self, *things):
        for thing in things:
            self.assertIs(is_line(thing), False)

    def test_lines(self):
        self.accept((), LINE, ((0, 1, ()),), ((0, None, 0),), ((5, 6, (None, 1, "a")),), ((5, 6, -(10 ** 30)),))
        self.accept(((0, 1, ()), (1, 2, 0)), ((0, 1, (1,)), (1, 2, 1)))

    def test_days(self):
        self.accept(((LAST, None, A),), ((LAST - 1, LAST, A),), ((0, LAST, A), (LAST, None, B)))
        self.refuse(((-1, 5, A),), ((LAST + 1, None, A),), ((0, LAST + 1, A),), ((-1, None, A),), ((-5, -2, A),))
        self.refuse(((False, 5, A),), ((True, 5, A),), ((0, True, A),), ((False, True, A),), ((True, None, A),))
        self.refuse((("a", 5, A),), (("1", 5, A),), ((0, "5", A),), ((0, "", A),))
        self.refuse(((None, 5, A),), ((None, None, A),))

    def test_ends(self):
        self.accept(((5, 6, A),), ((5, None, A),))
        self.refuse(((5, 5, A),), ((5, 4, A),), ((5, 0, A),), ((0, 0, A),))

    def test_pieces_beside_one_another(self):
        self.accept(((0, 3, A), (3, 5, B)), ((0, 3, A), (4, 5, A)), ((0, 3, A), (3, 5, B), (5, None, A)))
        self.refuse(((0, 3, A), (2, 5, B)), ((0, 3, A), (0, 3, B)), ((0, 9, A), (3, 5, B)), ((3, 5, A), (3, 9, B)))
        self.refuse(((0, 3, A), (3, 5, A)), ((0, 3, 7), (3, None, 7)), ((0, 3, ()), (3, 5, ())))
        self.refuse(((4, 5, A), (0, 3, A)), ((4, 5, A), (0, 4, B)), ((0, 3, A), (0, 3, A)))
        self.refuse(((0, None, A), (5, 6, B)), ((0, None, A), (0, None, B)), ((3, None, A), (0, 3, B)))
        self.refuse(((0, 1, A), (2, 3, A), (3, 4, A)), ((0, 1, A), (1, 3, B), (2, 4, A)))

    def test_lists_in_the_place_of_tuples(self):
        self.refuse([], [(0, 1, A)], ([0, 1, A],), ((0, 1, ["a"]),), ((0, 1, []),), (((0, 1, A),),), list(LINE))

    def test_parts(self):
        self.refuse(((),), ((0,),), ((0, 1),), ((0, 1, A, None),), ((0, 1, A, A),), (0, 1, A), ((0, None),))

    def test_what(self):
        self.accept(((0, 1, ("abcdefgh", -1, None)),), ((0, 1, 5),), ((0, 1, ()),))
        for what in (True, False, None, "a", "", "abc", (True,), (1, False), ("A",), ("",), ("abcdefghi",), ((),),
                     ((1,),), (1, [2]), ([],), {}, b"a", (b"a",), Odd(), (Odd(),), {1}):
            self.refuse(((0, 1, what),))

    def test_anything(self):
        for thing in odd_things():
            self.refuse(thing, (thing,), ((thing, 5, A),), ((0, 1, A), thing), ((0, 1, (1, thing)), (1, 2, Odd())))
            if thing is not None:
                self.refuse(((0, thing, A),), ((0, 1, (thing,)),))
            self.refuse(((0, 1, thing),))
        for depth in range(1, 41):
            self.refuse(nested("tuple", LINE, depth), nested("list", LINE, depth), nested("tuple", 1, depth))
        self.refuse(nested("tuple", (), 1))


class Found(unittest.TestCase):
    def test_days_of_a_line(self):
        for day, what in ((0, None), (1, None), (2, A), (3, A), (4, B), (5, B), (6, None), (8, None), (9, A), (11, A),
                          (12, None), (19, None), (20, 7), (21, 7), (LAST, 7)):
            self.assertEqual(found(LINE, day), what, day)

    def test_edges(self):
        self.assertIsNone(found((), 0))
        self.assertIsNone(found((), LAST))
        self.assertEqual(found(((0, 1, ()),), 0), ())
        self.assertIsNone(found(((0, 1, ()),), 1))
        self.assertEqual(found(((0, 1, 0),), 0), 0)
        self.assertEqual(found(((LAST, None, A),), LAST), A)
        self.assertIsNone(found(((0, LAST, A),), LAST))

    def test_by_a_plain_walk(self):
        for chance in chances(100, 1):
            line = random_line(chance)
            self.assertEqual([found(line, day) for day in DAYS], [on_day(line, day) for day in DAYS])


class Painted(unittest.TestCase):
    def test_apart(self):
        self.assertEqual(painted((), A, low=3, high=5), ((3, 5, A),))
        self.assertEqual(painted(((3, 5, A),), A, low=7, high=9), ((3, 5, A), (7, 9, A)))
        self.assertEqual(painted(((3, 5, A),), B, low=0, high=1), ((0, 1, B), (3, 5, A)))
        self.assertEqual(painted(((0, 2, A), (8, 9, A)), B, low=4, high=5), ((0, 2, A), (4, 5, B), (8, 9, A)))

    def test_touching(self):
        self.assertEqual(painted(((3, 5, A),), A, low=5, high=9), ((3, 9, A),))
        self.assertEqual(painted(((3, 5, A),), A, low=1, high=3), ((1, 5, A),))
        self.assertEqual(painted(((0, 3, A), (5, 8, A)), A, low=3, high=5), ((0, 8, A),))
        self.assertEqual(painted(((3, 5, A),), B, low=5, high=9), ((3, 5, A), (5, 9, B)))
        self.assertEqual(painted(((3, 5, A),), B, low=1, high=3), ((1, 3, B), (3, 5, A)))
        self.assertEqual(painted(((0, 3, A), (3, 5, B), (5, None, A)), A, low=3, high=5), ((0, None, A),))
        self.assertEqual(painted(((0, 3, 1),), (1,), low=3, high=5), ((0, 3, 1), (3, 5, (1,))))

    def test_within_one_piece(self):
        self.assertEqual(painted(((0, 9, A),), B, low=3, high=5), ((0, 3, A), (3, 5, B), (5, 9, A)))
        self.assertEqual(painted(((0, None, A),), B, low=3, high=5), ((0, 3, A), (3, 5, B), (5, None, A)))
        self.assertEqual(painted(((0, 9, A),), A, low=3, high=5), ((0, 9, A),))
        self.assertEqual(painted(((0, 9, A),), None, low=3, high=5), ((0, 3, A), (5, 9, A)))

    def test_over_several_and_over_all(self):
        self.assertEqual(painted(LINE, 5, low=3, high=10), ((2, 3, A), (3, 10, 5), (10, 12, A), (20, None, 7)))
        self.assertEqual(painted(LINE, 5, low=0, high=30), ((0, 30, 5), (30, None, 7)))
        self.assertEqual(painted(LINE, 5), ((0, None, 5),))
        self.assertEqual(painted(LINE, None), ())
        self.assertEqual(painted(LINE, None, low=3, high=10), ((2, 3, A), (10, 12, A), (20, None, 7)))
        self.assertEqual(painted(LINE, None, low=20), LINE[:3])
        self.assertEqual(painted((), None, low=3, high=5), ())
        self.assertEqual(painted(LINE, (), low=0, high=LAST), ((0, LAST, ()), (LAST, None, 7)))

    def test_low_and_high(self):
        self.assertEqual(painted((), A), ((0, None, A),))
        self.assertEqual(painted((), A, low=3), ((3, None, A),))
        self.assertEqual(painted((), A, high=3), ((0, 3, A),))
        self.assertEqual(painted((), A, high=3, low=1), ((1, 3, A),))
        self.assertEqual(painted((), A, high=None, low=1), ((1, None, A),))
        self.assertEqual(painted(LINE, A, low=2, high=4), LINE)

    def test_by_names_alone(self):
        self.assertRaises(TypeError, painted, LINE, A, 3)
        self.assertRaises(TypeError, within, LINE, 3)
        self.assertRaises(TypeError, bare, LINE, 3)

    def test_what_was_handed_in_is_as_it_was(self):
        line = ((0, 3, A), (5, 8, B))
        what = ("c",)
        self.assertEqual(painted(line, what, low=1, high=6), ((0, 1, A), (1, 6, what), (6, 8, B)))
        self.assertEqual((line, what), (((0, 3, A), (5, 8, B)), ("c",)))
        self.assertEqual(painted(line, what, low=1, high=6), painted(line, what, low=1, high=6))

    def test_a_span_without_a_day_paints_nothing(self):
        self.assertEqual(painted(LINE, B, low=3, high=3), LINE)

    def test_by_a_plain_walk(self):
        for chance in chances(400, 2):
            line = random_line(chance)
            what = chance.choice([None, (0,), (1,), (2,)])
            low = chance.randrange(14)
            high = chance.choice([None, low + 1 + chance.randrange(6)])
            new = painted(line, what, low=low, high=high)
            self.assertTrue(is_line(new))
            for day in range(25):
                inside = low <= day and (high is None or day < high)
                self.assertEqual(on_day(new, day), what if inside else on_day(line, day))


class Within(unittest.TestCase):
    def test_spans(self):
        self.assertEqual(within(LINE, low=2, high=4), ((2, 4, A),))
        self.assertEqual(within(LINE, low=10, high=11), ((10, 11, A),))
        self.assertEqual(within(LINE, low=0, high=2), ())
        self.assertEqual(within(LINE[:3], low=12), ())
        self.assertEqual(within(LINE, low=13, high=20), ())
        self.assertEqual(within(LINE, low=3, high=5), ((3, 4, A), (4, 5, B)))
        self.assertEqual(within(LINE, low=2, high=3), ((2, 3, A),))
        self.assertEqual(within(LINE, low=3, high=4), ((3, 4, A),))

    def test_without_an_end_and_left_out(self):
        self.assertEqual(within(LINE), LINE)
        self.assertEqual(within(LINE, low=0, high=None), LINE)
        self.assertEqual(within(LINE, low=10), ((10, 12, A), (20, None, 7)))
        self.assertEqual(within(LINE, high=10), ((2, 4, A), (4, 6, B), (9, 10, A)))
        self.assertEqual(within(LINE, high=25, low=22), ((22, 25, 7),))
        self.assertEqual(within(LINE, low=22), ((22, None, 7),))
        self.assertEqual(within(((0, None, A),), low=LAST), ((LAST, None, A),))
        self.assertEqual(within(()), ())
        self.assertEqual(within(LINE, low=3, high=3), ())

    def test_by_a_plain_walk(self):
        for chance in chances(300, 3):
            line = random_line(chance)
            low = chance.randrange(14)
            high = chance.choice([None, low + 1 + chance.randrange(6)])
            part = within(line, low=low, high=high)
            self.assertTrue(is_line(part))
            for day in range(25):
                inside = low <= day and (high is None or day < high)
                self.assertEqual(on_day(part, day), on_day(line, day) if inside else None)


class Beside(unittest.TestCase):
    def test_pieces(self):
        self.assertEqual(beside(((0, 4, A),), ((2, 6, B),)), ((0, 2, A, None), (2, 4, A, B), (4, 6, None, B)))
        self.assertEqual(beside(((0, 2, A),), ((5, None, 1),)), ((0, 2, A, None), (5, None, None, 1)))
        self.assertEqual(beside(((0, 2, A),), ((2, 3, A),)), ((0, 2, A, None), (2, 3, None, A)))
        self.assertEqual(beside(((0, 9, A),), ((2, 3, A), (3, 4, B))),
                         ((0, 2, A, None), (2, 3, A, A), (3, 4, A, B), (4, 9, A, None)))
        self.assertEqual(beside(((0, None, ()),), ((0, LAST, 0),)), ((0, LAST, (), 0), (LAST, None, (), None)))

    def test_alike_lines(self):
        self.assertEqual(beside(LINE, LINE), tuple((low, high, what, what) for low, high, what in LINE))

    def test_the_empty_line(self):
        self.assertEqual(beside(LINE, ()), tuple((low, high, what, None) for low, high, what in LINE))
        self.assertEqual(beside((), LINE), tuple((low, high, None, what) for low, high, what in LINE))
        self.assertEqual(beside((), ()), ())

    def test_either_way_about_and_by_a_plain_walk(self):
        for chance in chances(300, 4):
            one, other = random_line(chance), random_line(chance)
            told = beside(one, other)
            turned = tuple((low, high, there, here) for low, high, here, there in told)
            self.assertEqual(beside(other, one), turned)
            self.check_few(told)
            for day in DAYS:
                held = [(here, there) for low, high, here, there in told if low <= day and (high is None or day < high)]
                pair = (on_day(one, day), on_day(other, day))
                self.assertEqual(held, [] if pair == (None, None) else [pair])

    def check_few(self, told):
        for low, high, here, there in told:
            self.assertTrue(high is None or low < high)
        for (low, high, *pair), (start, end, *other) in zip(told, told[1:]):
            self.assertTrue(high < start or (high == start and pair != other))


class Bare(unittest.TestCase):
    def test_spans(self):
        self.assertEqual(bare(LINE), ((0, 2), (6, 9), (12, 20)))
        self.assertEqual(bare(LINE, low=2, high=4), ())
        self.assertEqual(bare(LINE, low=2, high=6), ())
        self.assertEqual(bare(LINE, low=10, high=11), ())
        self.assertEqual(bare(LINE, low=0, high=1), ((0, 1),))
        self.assertEqual(bare(LINE, low=0, high=2), ((0, 2),))
        self.assertEqual(bare(LINE, low=1, high=3), ((1, 2),))
        self.assertEqual(bare(LINE, low=5, high=10), ((6, 9),))
        self.assertEqual(bare(LINE, low=7, high=8), ((7, 8),))
        self.assertEqual(bare(LINE, low=30, high=40), ())

    def test_without_an_end_and_left_out(self):
        self.assertEqual(bare(()), ((0, None),))
        self.assertEqual(bare((), low=5), ((5, None),))
        self.assertEqual(bare((), high=5), ((0, 5),))
        self.assertEqual(bare((), high=9, low=5), ((5, 9),))
        self.assertEqual(bare(((0, None, A),)), ())
        self.assertEqual(bare(LINE[:3]), ((0, 2), (6, 9), (12, None)))
        self.assertEqual(bare(LINE[:3], low=12), ((12, None),))
        self.assertEqual(bare(LINE[:3], low=30), ((30, None),))
        self.assertEqual(bare(LINE, low=21), ())
        self.assertEqual(bare(LINE, high=7), ((0, 2), (6, 7)))
        self.assertEqual(bare(((0, LAST, A),)), ((LAST, None),))
        self.assertEqual(bare(((0, LAST, A),), low=LAST - 1, high=LAST), ())
        self.assertEqual(bare(LINE, low=3, high=3), ())

    def test_by_a_plain_walk(self):
        for chance in chances(300, 5):
            line = random_line(chance)
            low = chance.randrange(14)
            high = chance.choice([None, low + 1 + chance.randrange(6)])
            spans = bare(line, low=low, high=high)
            for (start, end), (later, last) in zip(spans, spans[1:]):
                self.assertTrue(start < end < later)
            for day in range(25):
                inside = low <= day and (high is None or day < high)
                held = any(start <= day and (end is None or day < end) for start, end in spans)
                self.assertEqual(held, inside and on_day(line, day) is None)

    def test_the_first_day_with_nothing(self):
        for chance in chances(300, 13):
            line = random_line(chance)
            for day in range(14):
                spans = bare(line, low=day)
                self.assertEqual(first_bare(line, day), spans[0][0] if spans else None)


class AtOnce(unittest.TestCase):
    """No day is walked by itself: these would never end otherwise."""

    def test_far_days(self):
        line = ((0, LAST - 5, A), (LAST, None, B))
        self.assertIs(is_line(line), True)
        self.assertEqual(found(line, LAST - 6), A)
        self.assertEqual(painted(line, B, low=7, high=LAST), ((0, 7, A), (7, None, B)))
        self.assertEqual(within(line, low=8), ((8, LAST - 5, A), (LAST, None, B)))
        self.assertEqual(bare(line), ((LAST - 5, LAST),))
        self.assertEqual(beside(line, ((5, None, A),)),
                         ((0, 5, A, None), (5, LAST - 5, A, A), (LAST - 5, LAST, None, A), (LAST, None, B, A)))

    def test_long_lines(self):
        step = LAST // 4000
        line = tuple((number * step, (number + 1) * step, (number,)) for number in range(4000))
        self.assertIs(is_line(line), True)
        self.assertEqual(beside(line, line), tuple((low, high, what, what) for low, high, what in line))
        self.assertEqual([found(line, number * step) for number in range(4000)], [(number,) for number in range(4000)])


if __name__ == "__main__":
    unittest.main()
