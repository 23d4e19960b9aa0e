"""Points 2 and 3: whole numbers, words, things, days, spans."""

import unittest

from bothtimes import days
from tests.samples import LAST, odd_things


class Days(unittest.TestCase):
    def test_values(self):
        self.assertEqual((days.FIRST, days.MOST), (0, 60))
        self.assertFalse(isinstance(days.FIRST, bool))

    def test_numbers(self):
        for thing in (0, 1, -1, 10 ** 30, -10 ** 30):
            self.assertIs(days.is_number(thing), True)
        for thing in odd_things():
            self.assertIs(days.is_number(thing), False)

    def test_words(self):
        for thing in ("a", "z", "put", "cut", "on", "end", "key", "abcdefgh", "zzzzzzzz"):
            self.assertIs(days.is_word(thing), True, thing)
        for thing in ("", "abcdefghi", "A", "aB", "a ", " a", "a1", "a_", "`", "{", "\u00e4", "a\n", b"a", 1, -1):
            self.assertIs(days.is_word(thing), False, thing)
        for thing in odd_things():
            self.assertIs(days.is_word(thing), False)

    def test_things(self):
        for thing in (None, 0, -7, 10 ** 20, "a", "abcdefgh"):
            self.assertIs(days.is_thing(thing), True)
        for thing in odd_things():
            self.assertIs(days.is_thing(thing), thing is None)

    def test_days(self):
        for thing in (0, 1, LAST - 1, LAST):
            self.assertIs(days.is_day(thing), True)
        for thing in (-1, LAST + 1, "a", "1"):
            self.assertIs(days.is_day(thing), False)
        for thing in odd_things():
            self.assertIs(days.is_day(thing), False)

    def test_spans(self):
        for low, high in ((0, 1), (0, None), (LAST, None), (LAST - 1, LAST), (0, LAST)):
            self.assertIs(days.is_span(low, high), True)
        for low, high in ((0, 0), (1, 0), (-1, 1), (0, LAST + 1), (LAST + 1, None), (None, 1), (None, None),
                          (False, 1), (0, True), ("a", 1), (0, "a"), (0, [1])):
            self.assertIs(days.is_span(low, high), False)
        for thing in odd_things():
            self.assertIs(days.is_span(thing, 9), False)
            self.assertIs(days.is_span(0, thing), thing is None)

    def test_days_of_a_span(self):
        self.assertEqual([days.in_span(2, 4, day) for day in range(6)], [False, False, True, True, False, False])
        self.assertEqual([days.in_span(2, None, day) for day in (1, 2, LAST)], [False, True, True])


if __name__ == "__main__":
    unittest.main()
