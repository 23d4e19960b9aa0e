"""Points 4 (e) and 13: how many rows there are when, days without any, and how long rows last."""

import time
import unittest

from bothtimes.counts import counted, empty, fullest, lasting
from bothtimes.lines import is_line
from bothtimes.spans import knowns, spans
from tests.asked import KEYS, PLAN, in_order, random_question
from tests.samples import LAST, chances, line_from, random_deeds_of

A = ("a",)
B = ("b",)
C = (3,)
N = (None,)
DAYS = 24


def there(told, day):
    """The rows that are there on a day."""
    return [row for row, low, high in told if low <= day and (high is None or day < high)]


def random_spans(chance):
    """Spans of few rows as a question's."""
    told = []
    for row in (N, (-5,), C, A, ("a", 2), B):
        held = [1 if chance.random() < 0.4 else None for day in range(12)]
        told += [(row, low, high) for low, high, one in line_from(held, chance.random() < 0.3)]
    return tuple(told)


class Counted(unittest.TestCase):
    def check(self, told, *due):
        self.assertEqual(counted(tuple(told)), due)
        self.assertTrue(is_line(due))

    def test_of_no_spans(self):
        self.check([])

    def test_of_one(self):
        self.check([(A, 3, 9)], (3, 9, 1))
        self.check([(A, 0, None)], (0, None, 1))
        self.check([(A, LAST, None)], (LAST, None, 1))
        self.check([(A, LAST - 1, LAST)], (LAST - 1, LAST, 1))

    def test_that_meet(self):
        self.check([(A, 3, 9), (B, 5, 12)], (3, 5, 1), (5, 9, 2), (9, 12, 1))
        self.check([(A, 5, 12), (B, 3, 9)], (3, 5, 1), (5, 9, 2), (9, 12, 1))
        self.check([(A, 3, 9), (B, 3, 9), (C, 3, 9)], (3, 9, 3))
        self.check([(A, 3, None), (B, 5, None)], (3, 5, 1), (5, None, 2))

    def test_that_touch(self):
        self.check([(A, 3, 9), (B, 9, 12)], (3, 12, 1))
        self.check([(A, 3, 9), (A, 12, 14), (B, 9, 12)], (3, 14, 1))
        self.check([(A, 3, 9), (B, 9, None)], (3, None, 1))
        self.check([(A, 3, 9), (B, 3, 9), (C, 9, 12), (N, 9, 10)], (3, 10, 2), (10, 12, 1))

    def test_that_lie_within_one_another(self):
        self.check([(A, 0, 20), (B, 5, 9), (C, 6, 7)], (0, 5, 1), (5, 6, 2), (6, 7, 3), (7, 9, 2), (9, 20, 1))
        self.check([(A, 0, None), (B, 5, 9)], (0, 5, 1), (5, 9, 2), (9, None, 1))

    def test_nothing_where_there_is_none(self):
        self.check([(A, 3, 5), (A, 8, None), (B, 1, 2)], (1, 2, 1), (3, 5, 1), (8, None, 1))


class Fullest(unittest.TestCase):
    def test_each(self):
        for told, due in (
                ([], None), ([(A, 3, 9)], (1, 3)), ([(A, 0, None)], (1, 0)), ([(A, 3, 9), (B, 5, 12)], (2, 5)),
                ([(A, 3, 9), (B, 9, 12)], (1, 3)), ([(A, 7, 8), (B, 2, 3)], (1, 2)),
                ([(A, 3, 5), (A, 8, None), (B, 4, 5), (B, 9, 10)], (2, 4)),
                ([(A, 0, None), (B, 5, 9), (C, LAST, None), (N, LAST, None)], (3, LAST))):
            self.assertEqual(fullest(tuple(told)), due)


class Empty(unittest.TestCase):
    TOLD = ((A, 3, 5), (A, 8, 10), (B, 4, 6))

    def test_left_out(self):
        self.assertEqual(empty(()), ((0, None),))
        self.assertEqual(empty(self.TOLD), ((0, 3), (6, 8), (10, None)))
        self.assertEqual(empty(((A, 0, None),)), ())
        self.assertEqual(empty(((A, 2, None),)), ((0, 2),))
        self.assertEqual(empty(((A, 0, 4), (B, 4, 6))), ((6, None),))

    def test_of_a_span(self):
        self.assertEqual(empty((), low=3, high=8), ((3, 8),))
        self.assertEqual(empty(self.TOLD, low=2), ((2, 3), (6, 8), (10, None)))
        self.assertEqual(empty(self.TOLD, high=7), ((0, 3), (6, 7)))
        self.assertEqual(empty(self.TOLD, high=9, low=4), ((6, 8),))
        self.assertEqual(empty(self.TOLD, low=3, high=6), ())
        self.assertEqual(empty(self.TOLD, low=7, high=8), ((7, 8),))
        self.assertEqual(empty(self.TOLD, low=LAST), ((LAST, None),))
        self.assertEqual(empty(self.TOLD, low=0, high=None), empty(self.TOLD))
        self.assertRaises(TypeError, empty, self.TOLD, 3)


class Lasting(unittest.TestCase):
    TOLD = ((N, 2, 3), (C, 0, 4), (C, 6, None), (A, 3, 5), (A, 8, 10), (B, 4, 6))

    def test_left_out(self):
        self.assertEqual(lasting(()), ())
        self.assertEqual(lasting(self.TOLD), ((N, 1), (C, None), (A, 4), (B, 2)))
        self.assertEqual(lasting(((A, 0, LAST),)), ((A, LAST),))
        self.assertEqual(lasting(((A, 0, 5), (A, 7, None))), ((A, None),))

    def test_of_a_span(self):
        self.assertEqual(lasting(self.TOLD, low=4), ((C, None), (A, 3), (B, 2)))
        self.assertEqual(lasting(self.TOLD, low=4, high=9), ((C, 3), (A, 2), (B, 2)))
        self.assertEqual(lasting(self.TOLD, high=3), ((N, 1), (C, 3)))
        self.assertEqual(lasting(self.TOLD, high=4, low=3), ((C, 1), (A, 1)))
        self.assertEqual(lasting(self.TOLD, low=4, high=6), ((A, 1), (B, 2)))
        self.assertEqual(lasting(self.TOLD, low=LAST), ((C, None),))
        self.assertEqual(lasting(self.TOLD, low=10, high=LAST), ((C, LAST - 10),))
        self.assertEqual(lasting(((A, 3, 5),), low=5), ())
        self.assertEqual(lasting(((A, 3, 5),), high=3), ())
        self.assertEqual(lasting(self.TOLD, low=0, high=None), lasting(self.TOLD))
        self.assertRaises(TypeError, lasting, self.TOLD, 3)


class Walks(unittest.TestCase):
    def check(self, told):
        many = [len(there(told, day)) for day in range(DAYS)]
        self.assertEqual(counted(told), line_from([number or None for number in many], True))
        self.assertEqual(fullest(told), (max(many), many.index(max(many))) if max(many) else None)
        for low, high in ((0, None), (3, None), (0, 8), (4, 11), (20, None), (5, 6)):
            end = DAYS if high is None else high
            bare = line_from([1 if low <= day < end and not many[day] else None for day in range(DAYS)], high is None)
            self.assertEqual(empty(told, low=low, high=high), tuple((first, last) for first, last, one in bare))
            rows = in_order({row for day in range(low, end) for row in there(told, day)})
            days = [sum(row in there(told, day) for day in range(low, end)) for row in rows]
            endless = [high is None and row in there(told, DAYS) for row in rows]
            self.assertEqual(lasting(told, low=low, high=high),
                             tuple((row, None if open_end else number) for row, number, open_end in zip(rows, days, endless)))

    def test_random_spans(self):
        for chance in chances(150, 110):
            self.check(random_spans(chance))

    def test_of_questions(self):
        for chance in chances(60, 111):
            deeds = random_deeds_of(chance, PLAN, KEYS, 6, 5, 0.1)
            question = random_question(chance, 1 + chance.randrange(4))
            self.check(spans(PLAN, deeds, question))
            self.check(knowns(PLAN, deeds, question, 4))

    def test_far_days_tell_the_same(self):
        far = 10 ** 10
        for chance in chances(40, 112):
            near = random_spans(chance)
            told = tuple((row, low * far, None if high is None else high * far) for row, low, high in near)
            self.assertEqual(counted(told), tuple((low * far, None if high is None else high * far, many)
                                                  for low, high, many in counted(near)))
            self.assertEqual(lasting(told), tuple((row, None if days is None else days * far) for row, days in lasting(near)))

    def test_soon(self):
        began = time.process_time()
        told = tuple(((number,), number * 10 ** 8, LAST - number * 10 ** 8) for number in range(4000))
        self.assertEqual(len(counted(told)), 7999)
        self.assertEqual(fullest(told), (4000, 3999 * 10 ** 8))
        self.assertEqual(empty(told), ((LAST, None),))
        self.assertEqual(lasting(told)[5], ((5,), LAST - 10 ** 9))
        self.assertLess(time.process_time() - began, 5)


if __name__ == "__main__":
    unittest.main()
