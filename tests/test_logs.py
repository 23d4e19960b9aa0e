"""Points 4 (g), 15 and 16: the log of deeds, and what comes up from any cut of it."""

import re
import time
import unittest

from bothtimes.logs import WORDS, come_up, log_text
from bothtimes.plans import is_deed
from bothtimes.references import broken
from bothtimes.store import Store
from bothtimes.writing import ROW_WORDS
from tests.samples import LAST, chances
from tests.stores import KEYS, PLAN, all_rows, city, cut, outcome, put, random_steps, staff

BIG = 10 ** 18 - 1
DEEDS = (
    (3, (city(), put("tag", "a", (), 4, 9))),
    (3, (staff(low=7, high=120, pay=-40, home="ulm"), cut("tag", "b"), cut("tag", "a", 5, 6))),
    (25, (staff("bob", pay="on", boss="ann", low=8, high=9),)),
    (LAST, (staff("end", LAST, pay=0), staff("end", LAST - 1, LAST, pay=BIG))),
)
LOG = """on 3
put city ulm 0 - -
put tag a 4 9
end 38
on 3
put staff ann 7 120 ulm -40 -
cut tag b 0 -
cut tag a 5 6
end 63
on 25
put staff bob 8 9 - on ann
end 33
on 1000000000000
put staff end 1000000000000 - - 0 -
put staff end 999999999999 1000000000000 - 999999999999999999 -
end 117
"""
NUMBER = r"(?:0|-?[1-9][0-9]{0,17})"
NAME = r"[a-z]{1,8}"
THING = rf"(?:-|{NUMBER}|{NAME})"


def read_thing(part):
    return None if part == "-" else part if re.fullmatch(NAME, part) else int(part)


def plain_deeds(text, words, most, plan=PLAN):
    """The deeds that are whole, and where each ends, by what they look like."""
    on, put_word, cut_word, end = words
    step = rf"(?:{put_word} {NAME} {NAME} {THING} {THING}(?: {THING})*|{cut_word} {NAME} {NAME} {THING} {THING})\n"
    whole = re.compile(rf"({on} ({NUMBER})\n((?:{step})+)){end} ({NUMBER})\n")
    deeds, ends, at = (), [0], 0
    while found := whole.match(text, at):
        steps = []
        for row in found[3].split("\n")[:-1]:
            form, table, key, low, high, *worths = row.split(" ")
            span = (read_thing(low), read_thing(high))
            known = tuple(read_thing(part) for part in worths)
            steps.append(("put", table, key, known, *span) if form == put_word else ("cut", table, key, *span))
        deed = (int(found[2]), tuple(steps))
        if int(found[4]) != len(found[1]) or not is_deed(plan, deed) or len(deeds) >= most:
            break
        if deeds and deed[0] < deeds[-1][0] or broken(plan, deeds + (deed,)) is not None:
            break
        deeds += (deed,)
        at = found.end()
        ends.append(at)
    return deeds, ends[-1]


class LogText(unittest.TestCase):
    def test_words(self):
        self.assertEqual(WORDS, ("on", "put", "cut", "end"))
        self.assertEqual(ROW_WORDS, WORDS)

    def test_no_deeds(self):
        self.assertEqual(log_text(()), "")
        self.assertEqual(log_text((), words=("a", "b", "c", "d")), "")

    def test_each_kind(self):
        self.assertEqual(log_text(DEEDS), LOG)
        self.assertEqual(log_text(((0, (put("tag", "a"),)),)), "on 0\nput tag a 0 -\nend 19\n")
        self.assertEqual(log_text(((0, (put("tag", "a", (), 5, 6), cut("tag", "a", 5, 7))),)),
                         "on 0\nput tag a 5 6\ncut tag a 5 7\nend 33\n")

    def test_numbers_of_eighteen_figures(self):
        text = log_text(((0, (staff(pay=BIG), staff(pay=-BIG), staff(pay=-1), staff(pay=None))),))
        self.assertIn("put staff ann 0 - - 999999999999999999 -\nput staff ann 0 - - -999999999999999999 -\n", text)
        self.assertIn("put staff ann 0 - - -1 -\nput staff ann 0 - - - -\n", text)

    def test_other_first_words(self):
        self.assertEqual(log_text(((4, (put("tag", "a"), cut("tag", "put", 2, 3))),), words=("day", "cut", "put", "z")),
                         "day 4\ncut tag a 0 -\nput tag put 2 3\nz 36\n")
        self.assertEqual(log_text(DEEDS, words=WORDS), LOG)
        self.assertRaises(TypeError, log_text, DEEDS, WORDS)

    def test_the_log_of_all_is_the_logs_of_each(self):
        for chance in chances(30, 140):
            deeds = tuple((number, random_steps(chance, 5)) for number in range(chance.randrange(6)))
            self.assertEqual(log_text(deeds), "".join(log_text((deed,)) for deed in deeds))
            for deed in deeds:
                rows, end, number = log_text((deed,)).rpartition("end ")
                self.assertEqual((end, number), ("end ", f"{len(rows)}\n"))

    def test_str_of_a_store(self):
        store = Store(PLAN)
        store.tell_all(DEEDS)
        self.assertEqual(str(store), LOG)


class ComeUp(unittest.TestCase):
    def check(self, text, words=WORDS, most=60, plan=PLAN):
        """As the deeds tell that look whole; tell these."""
        deeds, signs = plain_deeds(text, words, most, plan)
        told = come_up(plan, text, words=words, most=most)
        self.assertIsInstance(told, tuple)
        store, taken = told
        self.assertEqual((store.deeds(), taken), (deeds, signs), text)
        self.assertEqual((store.plan, store.most, store.views()), (plan, most, ()))
        self.assertEqual(log_text(deeds, words=words), text[:signs])
        return len(deeds)

    def whole(self, text, many):
        self.assertEqual(self.check(text), many)

    def test_the_whole_log(self):
        store, signs = come_up(PLAN, LOG)
        self.assertEqual((store.deeds(), signs, store.most), (DEEDS, len(LOG), 60))
        self.assertEqual(str(store), LOG)
        self.whole(LOG, 4)
        store, signs = come_up(PLAN, "")
        self.assertEqual((store.deeds(), signs), ((), 0))

    def test_cut_at_each_place(self):
        ends = [len(log_text(DEEDS[:many])) for many in range(5)]
        for place in range(len(LOG) + 1):
            store, signs = come_up(PLAN, LOG[:place])
            whole = sum(end <= place for end in ends) - 1
            self.assertEqual((store.deeds(), signs), (DEEDS[:whole], ends[whole]))
            self.check(LOG[:place])
            self.check(LOG[:place] + LOG)
            self.check(LOG[place:])

    def test_a_sign_left_out(self):
        for place in range(len(LOG)):
            self.check(LOG[:place] + LOG[place + 1:])

    def test_a_sign_put_in(self):
        for place in range(len(LOG) + 1):
            for sign in (" ", "\n", "-", "0", "1", "a", "A", "+", "_", ".", "\t", "~"):
                self.check(LOG[:place] + sign + LOG[place:])

    def test_a_sign_in_the_place_of_another_one(self):
        for place in range(len(LOG)):
            for sign in (" ", "\n", "-", "0", "9", "b", "Z", "+"):
                self.check(LOG[:place] + sign + LOG[place + 1:])

    def test_numbers_otherwise_written(self):
        def ones(day="4", low="5", high="9", worth="7", end=None):
            rows = f"on {day}\nput staff ann {low} {high} - {worth} -\n"
            return f"{rows}end {len(rows) if end is None else end}\n"
        self.whole(ones(), 1)
        for text in ("0", "-1", "-0", "00", "07", "-07", "+7", "7.0", "7_0", "1e3", " 7", "", "--7", "9" * 18, "-" + "9" * 18,
                     "9" * 19, "-" + "9" * 19, "9" * 4300, "9" * 5000, "-", "x", "X", "abcdefgh", "abcdefghi", "0x7", "\u0667"):
            for name in ("day", "low", "high", "worth"):
                self.check(ones(**{name: text}))
            self.check(ones(end=text))
        self.whole(ones(worth="9" * 18), 1)
        self.whole(ones(worth="-" + "9" * 18), 1)
        self.whole(ones(worth="9" * 19), 0)
        self.whole(ones(worth="07"), 0)
        self.whole(ones(worth="-0"), 0)
        self.whole(ones(worth="-"), 1)
        self.whole(ones(high="-"), 1)
        self.whole(ones(low="-"), 0)
        self.whole(ones(day="-"), 0)
        self.whole(ones(day=str(LAST)), 1)
        self.whole(ones(day=str(LAST + 1)), 0)

    def test_a_wrong_n(self):
        rows = "on 4\nput tag a 0 -\n"
        for number in range(40):
            self.whole(f"{rows}end {number}\n", int(number == 19))
        for end in ("end", "end ", "end 19 ", "end  19", "end 019", "end +19", "end 19 19", " end 19", "ends 19", "on 19"):
            self.whole(f"{rows}{end}\n", 0)

    def test_in_good_form_but_no_deeds(self):
        def one(*rows):
            text = "".join(row + "\n" for row in rows)
            return f"{text}end {len(text)}\n"
        self.whole(one("on 4", "put tag a 0 -"), 1)
        for rows in (("on 4",), ("on 4", "on 4", "put tag a 0 -"), ("put tag a 0 -",), ("put tag a 0 -", "on 4"),
                     ("on 4", "put none a 0 -"), ("on 4", "put tag a 5 5"), ("on 4", "put tag a 6 5"),
                     ("on 4", "put tag a 0 - 7"), ("on 4", "put city ulm 0 -"), ("on 4", "put staff ann 0 - 7 7 -"),
                     ("on 4", "cut tag a 0 - 7"), ("on 4", "cut tag a 0"), ("on 4", "put tag a 0"), ("on 4", "put tag"),
                     ("on 4", "put"), ("on 4", ""), ("on 4", "set tag a 0 -"), ("on 4 4", "put tag a 0 -"), ("on", "put tag a 0 -"),
                     ("on 4", "put tag abcdefghi 0 -"), ("on 4", "put tag A 0 -"), ("on 4", "put  tag a 0 -"),
                     ("on 4", "put tag a 0 - "), ("on 4", " put tag a 0 -"), ("on -4", "put tag a 0 -"), ()):
            self.whole(one(*rows), 0)
            self.whole(one("on 4", "put tag a 0 -") + one(*rows), 1)
            self.whole(one(*rows) + one("on 4", "put tag a 0 -"), 0)

    def test_refused(self):
        early = log_text(((5, (city(),)), (4, (city(),)), (6, (city(),))))
        self.whole(early, 1)
        breaks = log_text(((5, (city(),)), (5, (staff(home="ulm"),)), (6, (cut("city", "ulm", 9),)), (7, (city("bonn"),))))
        self.whole(breaks, 2)
        self.whole(log_text(((5, (staff(home="ulm"),)),)), 0)
        many = log_text(((5, (city(),)),) * 63)
        self.assertEqual(self.check(many), 60)
        for most in (0, 1, 2, 61, 62, 63, 64):
            self.assertEqual(self.check(many, most=most), min(most, 63))

    def test_other_first_words(self):
        words = ("put", "end", "on", "cut")
        text = log_text(DEEDS, words=words)
        self.assertEqual(self.check(text, words), 4)
        for place in range(len(text)):
            self.check(text[:place], words)
        self.assertEqual(self.check(text), 0)
        self.assertEqual(self.check(LOG, words), 0)
        self.assertEqual(self.check(log_text(DEEDS, words=("a", "b", "c", "abcdefgh")), ("a", "b", "c", "abcdefgh")), 4)

    def test_what_stands_behind_is_left(self):
        for behind in ("x", "\n", "on", "on 3", "on 3\n", "end 0\n", "on 3\nend 5\n", " ", LOG, "on 3\nput tag a 4 9\n"):
            store, signs = come_up(PLAN, LOG + behind)
            self.assertEqual((store.deeds(), signs), (DEEDS, len(LOG)))

    def test_of_another_plan(self):
        self.assertEqual(self.check(LOG, plan=(("city", ("land",), ()), ("tag", (), ()))), 1)
        self.assertEqual(self.check(LOG, plan=(("city", (), ()),)), 0)

    def test_it_goes_on_as_a_store(self):
        for place in range(0, len(LOG) + 1, 7):
            store, signs = come_up(PLAN, LOG[:place], most=5)
            plain = Store(PLAN, most=5)
            plain.tell_all(store.deeds())
            self.assertTrue(store == plain)
            for ask in (lambda one: one.tell(4, (staff("zoe", home="ulm"),)), lambda one: one.restore(LAST, "tag", "a", known=2),
                        lambda one: one.tell(2, (put("tag", "a"),)), lambda one: one.keep("v", ("rows", "staff")),
                        lambda one: one.tell(LAST, (cut("city", "ulm"),)), lambda one: one.touched("v"),
                        lambda one: one.tell(LAST, (cut("tag", "a"),)), lambda one: one.view("v")):
                self.assertEqual(outcome(ask, store), outcome(ask, plain))
            self.assertEqual(str(store), str(plain))

    def test_by_chance(self):
        for chance in chances(40, 141):
            store = Store(PLAN)
            store.tell(0, all_rows(PLAN, KEYS))
            for number in range(6):
                outcome(store.tell, number, random_steps(chance, 4))
            text = str(store)
            self.assertEqual(self.check(text), len(store))
            for number in range(20):
                place = chance.randrange(len(text))
                self.check(text[:place])
                self.check(text[:place] + chance.choice("0123456789abc -\n") + text[place + chance.randrange(3):])

    def test_soon(self):
        began = time.process_time()
        deeds = tuple((number, tuple(staff("ann", number * 10 ** 9 + place, LAST - place, pay=place) for place in range(3)))
                      for number in range(60))
        text = log_text(deeds)
        self.assertGreater(len(text), 6000)
        self.assertEqual(come_up(PLAN, text)[1], len(text))
        for place in range(0, 6000, 500):
            come_up(PLAN, text[:place])
        for wrong in ("\n" * 6000, " " * 6000, "on 1\n" * 1200, "end 0\n" * 1000, "on 1\n" + "put tag a 0 -\n" * 400,
                      "1" * 6000, "on " + "9" * 6000, "on 1\nput tag a 0 -\nend 19\n" * 240):
            self.check(wrong)
        self.assertLess(time.process_time() - began, 15)


if __name__ == "__main__":
    unittest.main()
