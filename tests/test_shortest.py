"""Point 10: the fewest steps from one line to another one."""

import itertools
import time
import unittest

from bothtimes.plans import is_step
from bothtimes.shortest import shortest
from bothtimes.story import line_of
from tests.samples import LAST, chances, full_deeds, line_from, random_line

A = ("a", 1)
B = ("b", 1)
C = ("c", 1)
STAFF = (("staff", ("team", "pay"), ()),)


def led(line, steps):
    """The line to which steps of the key lead one that has this line."""
    puts = tuple(("put", "staff", "ann", worths, low, high) for low, high, worths in line)
    return line_of(((0, puts + tuple(steps)),), "staff", "ann")


def cells(*worths):
    """The line that has these on the days from 0 on, the last one without an end."""
    return line_from(list(worths), True)


def distances(held, worths):
    """How many steps lead these days to any others, found by trying all steps from all that fewer steps lead to."""
    days = len(held)
    spans = [(low, high) for low in range(days) for high in range(low + 1, days + 1)]
    far = {tuple(held): 0}
    edge = [tuple(held)]
    while edge:
        reached = []
        for state in edge:
            for (low, high), what in itertools.product(spans, worths):
                after = state[:low] + (what,) * (high - low) + state[high:]
                if after not in far:
                    far[after] = far[state] + 1
                    reached.append(after)
        edge = reached
    return far


def fewest(before, after):
    """How few steps lead from some days to others, by the plain way over all first and last days."""
    days = len(after)
    whole = {}
    for first in reversed(range(days)):
        whole[first, first - 1] = 0
        for last in range(first, days):
            ways = [1 + (whole[first + 1, last] if first < last else 0)]
            for mate in range(first + 1, last + 1):
                if after[mate] == after[first]:
                    ways.append((whole[first + 1, mate - 1] if first + 1 < mate else 0) + whole[mate, last])
            whole[first, last] = min(ways)
    total = [0]
    for last in range(days):
        ways = [total[first] + whole[first, last] for first in range(last + 1)]
        total.append(min(ways + ([total[last]] if before[last] == after[last] else [])))
    return total[days]


class Shortest(unittest.TestCase):
    def check(self, before, after, many):
        steps = shortest("staff", "ann", before, after)
        self.assertIsInstance(steps, tuple)
        for step in steps:
            self.assertTrue(is_step(STAFF, step), step)
            self.assertEqual(step[1:3], ("staff", "ann"))
        self.assertEqual(led(before, steps), after)
        self.assertEqual(len(steps), many)
        return steps

    def test_alike(self):
        for line in ((), ((0, 5, A),), ((3, None, A),), cells(A, B, None, C)):
            self.assertEqual(shortest("staff", "ann", line, line), ())

    def test_one_step(self):
        self.assertEqual(self.check((), ((3, 9, A),), 1), (("put", "staff", "ann", A, 3, 9),))
        self.assertEqual(self.check((), ((3, None, A),), 1), (("put", "staff", "ann", A, 3, None),))
        self.check(((3, 9, A),), (), 1)
        self.check(((3, None, A),), (), 1)
        self.check(((3, 9, A),), ((3, 9, B),), 1)
        self.check(((0, 9, A),), ((0, 3, A), (5, 9, A)), 1)
        self.check(((0, 3, A), (5, 9, A)), ((0, 9, A),), 1)
        self.check(((0, 3, A), (5, 9, A)), (), 1)
        self.check(((0, 9, A),), ((0, None, A),), 1)
        self.check(((0, None, A),), ((0, 9, A),), 1)
        self.check(((0, 3, A), (3, 5, B), (5, 9, C)), ((0, 9, A),), 1)
        self.check(((2, 3, A), (5, None, C)), ((0, None, A),), 1)

    def test_table_and_key(self):
        self.assertEqual(shortest("tag", "zoe", (), ((0, 5, ()),)), (("put", "tag", "zoe", (), 0, 5),))
        self.assertEqual(shortest("tag", "zoe", ((0, 5, ()),), ()), (("cut", "tag", "zoe", 0, 5),))

    def test_one_step_under_others_saves_some(self):
        self.check((), cells(A, B, A), 2)
        self.check((), cells(A, None, A), 2)
        self.check((), cells(A, B, A, C, A), 3)
        self.check((), cells(A, B, C, B, A), 3)
        self.check((), cells(A, B, A, B, A), 3)
        self.check((), cells(A, B, A, B), 3)
        self.check(cells(C, C, C), cells(A, B, A), 2)
        self.check(cells(C, B, C), cells(A, B, A), 2)
        self.check(cells(A, B, A, B), cells(B, A, B, A), 3)
        self.check(cells(C, B, C, B, C), cells(A, B, A, B, A), 3)

    def test_what_stands_already_is_left(self):
        self.check(cells(A, B, C, B, A), cells(A, B, A, B, A), 1)
        self.check(cells(A, C, B, C, A), cells(A, A, B, A, A), 2)
        self.check(cells(A, C, B, B, C, A), cells(A, None, B, B, None, A), 2)
        self.check(cells(A, B, C, None), cells(B, B, C, A), 2)

    def test_cuts_amid(self):
        self.check(cells(A, A, A, A, A), cells(A, None, A, None, A), 2)
        self.check(cells(B, B, B, B, B), cells(A, None, A, None, A), 3)
        self.check(cells(A, B, C, A, B), cells(None, B, None, None, B), 2)
        self.check(cells(A, None, B, None, C), cells(None, None, None, None, None), 1)

    def test_by_a_search_over_all_steps(self):
        """All lines of two worths over five days, the last one without an end, from some lines."""
        worths = [None, A, B]
        begun = [(None,) * 5, (A, B, A, B, A), (A, A, None, B, B), (None, A, None, A, None), (B, A, A, A, B)]
        for before in begun:
            for after, many in distances(before, worths).items():
                self.check(cells(*before), cells(*after), many)

    def test_by_a_search_of_three_worths(self):
        worths = [None, A, B, C]
        for chance in chances(3, 50):
            before = tuple(chance.choice(worths) for day in range(6))
            reached = distances(before, worths)
            for after in chance.sample(sorted(reached, key=str), 300):
                self.check(cells(*before), cells(*after), reached[after])

    def test_by_the_plain_way(self):
        for chance in chances(250, 51):
            days = 1 + chance.randrange(24)
            worths = [None] + [A, B, C, ("d", 1)][:1 + chance.randrange(4)]
            before = [chance.choice(worths) for day in range(days)]
            after = [chance.choice(worths + [what]) for what in before]
            self.check(cells(*before), cells(*after), fewest(before, after))

    def test_lines_that_end(self):
        for chance in chances(200, 52):
            one = tuple((low, high, what + (1,)) for low, high, what in random_line(chance, 9, 2))
            other = tuple((low, high, what + (1,)) for low, high, what in random_line(chance, 9, 2))
            held = [[dict((day, what) for low, high, what in line for day in range(low, high or 12)).get(day)
                     for day in range(12)] for line in (one, other)]
            steps = shortest("staff", "ann", one, other)
            self.assertEqual(led(one, steps), other)
            self.assertEqual(len(steps), fewest(*held))

    def test_far_days(self):
        def later(line):
            return tuple((low * 10 ** 11, None if high is None else high * 10 ** 11, what) for low, high, what in line)
        for chance in chances(60, 53):
            before = [chance.choice([None, A, B]) for day in range(10)]
            after = [chance.choice([None, A, B]) for day in range(10)]
            self.check(later(cells(*before)), later(cells(*after)), fewest(before, after))
        self.check(((0, LAST, A),), ((0, LAST - 1, A), (LAST, None, A)), 2)
        self.check(((LAST, None, A),), ((LAST - 1, LAST, A),), 2)
        self.check(((LAST, None, A),), ((LAST - 1, None, A),), 1)


class Many(unittest.TestCase):
    def check(self, before, after, many):
        began = time.process_time()
        steps = shortest("staff", "ann", before, after)
        self.assertLess(time.process_time() - began, 5)
        self.assertEqual(led(before, steps), after)
        self.assertEqual(len(steps), many)

    def test_nested_worths(self):
        nest = tuple((number * 10 ** 9, number * 10 ** 9 + 10 ** 9, ("a", min(number, 398 - number)))
                     for number in range(399))
        self.check((), nest, 200)
        self.check(nest, (), 1)
        self.check(nest, nest, 0)
        self.check(nest, ((0, LAST, ("b", 0)),), 1)

    def test_alternating_worths(self):
        turns = tuple((number * 10 ** 9, number * 10 ** 9 + 10 ** 9, A if number % 2 else B) for number in range(400))
        self.check((), turns, 201)
        other = tuple((low, high, B if what == A else A) for low, high, what in turns)
        self.check(turns, other, 201)

    def test_gaps(self):
        gaps = tuple((number * 2, number * 2 + 1, A) for number in range(200))
        self.check((), gaps, 200)
        self.check(((0, 399, A),), gaps, 199)
        self.check(((0, None, A),), gaps, 200)
        self.check(gaps, ((0, None, A),), 1)

    def test_unlike_worths(self):
        steep = tuple((number, number + 1, ("a", number)) for number in range(300))
        self.check((), steep, 300)
        self.check(steep[::2], steep, 150)

    def test_lines_of_sixty_deeds(self):
        deeds = full_deeds(STAFF)
        day = deeds[29][0]
        for key in ("aa", "ab", "ah"):
            before = line_of(deeds, "staff", key, known=day)
            after = line_of(deeds, "staff", key)
            steps = shortest("staff", key, before, after)
            self.assertLessEqual(len(steps), sum(step[2] == key for told, steps in deeds[30:] for step in steps))
            puts = tuple(("put", "staff", key, worths, low, high) for low, high, worths in before)
            self.assertEqual(line_of(((0, puts + steps),), "staff", key), after)


if __name__ == "__main__":
    unittest.main()
