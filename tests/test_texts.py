"""Points 4 (h) and 16: the texts of plans and questions, written and read."""

import re
import time
import unittest

from bothtimes.errors import NoText
from bothtimes.plans import is_plan
from bothtimes.questions import is_question
from bothtimes.reading import read_plan, read_question
from bothtimes.showing import show_plan, show_question
from tests.asked import PLAN, random_question
from tests.samples import chances, odd_things, ring

TEXT = """table city land size
ref land land
table land head pay
table staff home pay boss
ref boss staff
ref home city
table tag"""
# Words with which rows and parts begin, as names.
NAMES = (("above", ("where", "rows", "table"), (("rows", "top"), ("where", "above"))), ("ref", ("ref", "keep"), ()),
         ("rows", ("top", "count", "join", "on"), ()), ("table", (), ()), ("top", ("ref",), (("ref", "table"),)))
ROWS = ("rows", "staff")
BIG = 10 ** 18 - 1
QUESTIONS = (
    (ROWS, "rows staff"),
    (("where", ROWS, "pay", 7), "rows staff | where pay 7"),
    (("where", ROWS, "pay", 0), "rows staff | where pay 0"),
    (("where", ROWS, "pay", -BIG), "rows staff | where pay -999999999999999999"),
    (("where", ROWS, "home", "where"), "rows staff | where home where"),
    (("where", ROWS, "key", None), "rows staff | where key -"),
    (("above", ROWS, "pay", -3), "rows staff | above pay -3"),
    (("join", ROWS, "boss", "city"), "rows staff | join boss city"),
    (("lacking", ROWS, "key", "tag"), "rows staff | lacking key tag"),
    (("keep", ROWS, ("pay", "key")), "rows staff | keep pay key"),
    (("keep", ROWS, ("boss",)), "rows staff | keep boss"),
    (("top", ROWS, (), "pay"), "rows staff | top pay"),
    (("top", ROWS, ("boss", "pay"), "pay"), "rows staff | top pay boss pay"),
    (("count", ROWS, ()), "rows staff | count"),
    (("count", ROWS, ("home", "boss")), "rows staff | count home boss"),
    (("sum", ROWS, (), "pay"), "rows staff | sum pay"),
    (("sum", ROWS, ("boss", "home"), "pay"), "rows staff | sum pay boss home"),
    (("above", ("count", ("join", ("where", ("rows", "tag"), "key", "a"), "key", "city"), ("land",)), "many", 1),
     "rows tag | where key a | join key city | count land | above many 1"),
)
NAME = "[a-z]{1,8}"
NUMBER = "(?:0|-?[1-9][0-9]{0,17})"


def wrong_row(text):
    """The row of a plan's text that is wrong, by what rows look like; None of a plan's text."""
    tables = []
    rows = text.split("\n")
    for at, row in enumerate(rows):
        word, *words = row.split(" ")
        if re.fullmatch(f"table( {NAME})+", row):
            tables.append([words[0], tuple(words[1:]), []])
        elif tables and re.fullmatch(f"ref {NAME} {NAME}", row):
            tables[-1][2].append(tuple(words))
        else:
            return at
    plan = tuple((name, columns, tuple(references)) for name, columns, references in tables)
    return None if is_plan(plan) else len(rows)


def wrong_part(text):
    """The part of a question's text that is wrong, by what parts look like; None of a question's text."""
    question = None
    for at, part in enumerate(text.split(" | ")):
        word, *words = part.split(" ")
        if at == 0 and re.fullmatch(f"rows {NAME}", part):
            question = ("rows", words[0])
        elif at == 0:
            return at
        elif re.fullmatch(f"where {NAME} (-|{NAME}|{NUMBER})", part):
            thing = None if words[1] == "-" else words[1] if words[1].isalpha() else int(words[1])
            question = ("where", question, words[0], thing)
        elif re.fullmatch(f"above {NAME} {NUMBER}", part):
            question = ("above", question, words[0], int(words[1]))
        elif re.fullmatch(f"(join|lacking) {NAME} {NAME}", part):
            question = (word, question, words[0], words[1])
        elif re.fullmatch(f"(keep|count)( {NAME})*", part):
            question = (word, question, tuple(words))
        elif re.fullmatch(f"(top|sum)( {NAME})+", part):
            question = (word, question, tuple(words[1:]), words[0])
        else:
            return at
        if not is_question(PLAN, question):
            return at
    return None


class Texts(unittest.TestCase):
    def refused(self, row, ask, *given):
        with self.assertRaises(NoText) as caught:
            ask(*given)
        self.assertIs(type(caught.exception), NoText)
        self.assertEqual(vars(caught.exception), {"row": row}, given)


class Plans(Texts):
    def test_written(self):
        self.assertEqual(show_plan(PLAN), TEXT)
        self.assertEqual(show_plan((("a", (), ()),)), "table a")
        self.assertEqual(show_plan(NAMES), "table above where rows table\nref rows top\nref where above\n"
                                           "table ref ref keep\ntable rows top count join on\ntable table\n"
                                           "table top ref\nref ref table")

    def test_read_as_it_was(self):
        plans = [PLAN, NAMES, (("a", (), ()),)] + [ring(many, columns) for many in range(1, 7)
                                                   for columns in ((), ("b",), ("d", "a", "c", "b"))]
        for plan in plans:
            self.assertTrue(is_plan(plan))
            self.assertEqual(read_plan(show_plan(plan)), plan)

    def test_no_text(self):
        for thing in odd_things() + [5, PLAN, TEXT.encode(), [TEXT], (TEXT,)]:
            if not isinstance(thing, str):
                self.refused(0, read_plan, thing)

    def test_the_first_row_of_neither_form(self):
        for row in ("", " ", "a", "tabl a", "tables a", "Table a", "table", "table ", "table  a", " table a", "table a ",
                    "table a  b", "table A", "table a1", "table a B", "table abcdefghi", "table a abcdefghi", "table -", "table 1",
                    "ref", "ref a", "ref a ", "ref  a b", "ref a b c", "ref a b ", " ref a b", "ref A b", "ref a 1", "refs a b",
                    "table\ta", "rows a", "table a,b", "table a|b"):
            self.refused(0, read_plan, row)
            self.refused(0, read_plan, f"{row}\ntable a")
            self.refused(1, read_plan, f"table a\n{row}")
            self.refused(2, read_plan, f"table a b\nref b a\n{row}\ntable c")
            self.refused(1, read_plan, f"table a b\n{row}\n{row}")
            self.refused(1, read_plan, f"table z\n{row}\ntable a")

    def test_line_feeds_too_many(self):
        self.refused(7, read_plan, TEXT + "\n")
        self.refused(0, read_plan, "\n" + TEXT)
        self.refused(3, read_plan, TEXT.replace("\ntable staff", "\n\ntable staff"))
        self.refused(0, read_plan, "")
        self.refused(0, read_plan, "\n")

    def test_a_reference_ahead_of_all_tables(self):
        self.refused(0, read_plan, "ref a b")
        self.refused(0, read_plan, "ref a b\ntable a b")
        self.refused(0, read_plan, "ref a b\nwrong")

    def test_no_plan(self):
        for text in ("table b\ntable a", "table a\ntable a", "table a b b", "table a key", "table a many", "table a x sum",
                     "table a b c d e f", "table a\nref b a", "table a b\nref b c", "table a b\nref b a\nref b a",
                     "table a b c\nref c a\nref b a", "table a b\ntable c\nref b a", "table a b\nref a b",
                     "\n".join(f"table {name}" for name in "abcdefg"), "table a\nref key a", "table a\ntable b\nref b a",
                     "table a b\nref b a\nref b c\ntable c"):
            self.refused(len(text.split("\n")), read_plan, text)
        self.refused(400, read_plan, "\n".join(["table a"] * 400))

    def test_changed_at_each_place(self):
        for text in (TEXT, show_plan(NAMES)):
            for place in range(len(text) + 1):
                for sign in ("", " ", "\n", "a", "z", "B", "0", "-", "|", ";"):
                    for end in (place, place + 1):
                        changed = text[:place] + sign + text[end:]
                        self.check(changed)
                self.check(text[:place])
                self.check(text[place:])

    def check(self, text):
        row = wrong_row(text)
        if row is None:
            self.assertEqual(show_plan(read_plan(text)), text)
        else:
            self.refused(row, read_plan, text)


class Questions(Texts):
    def test_written_and_read(self):
        for question, text in QUESTIONS:
            self.assertTrue(is_question(PLAN, question), text)
            self.assertEqual(show_question(question), text)
            self.assertEqual(read_question(PLAN, text), question)

    def test_words_with_which_parts_begin(self):
        for text in ("rows rows | where key rows", "rows rows | keep top count join on", "rows rows | top top on count",
                     "rows rows | sum count on | where sum -", "rows above | join rows top | lacking ref table",
                     "rows ref | count keep ref | above many 0", "rows table | where key table"):
            question = read_question(NAMES, text)
            self.assertTrue(is_question(NAMES, question))
            self.assertEqual(show_question(question), text)

    def test_read_as_it_was(self):
        for chance in chances(400, 150):
            question = random_question(chance, 1 + chance.randrange(6))
            self.assertTrue(is_question(PLAN, question))
            text = show_question(question)
            self.assertEqual(read_question(PLAN, text), question)
            self.assertIsNone(wrong_part(text))

    def test_no_text(self):
        for thing in odd_things() + [5, ROWS, b"rows staff", ["rows staff"], ("rows staff",)]:
            if not isinstance(thing, str):
                self.refused(0, read_question, PLAN, thing)

    def test_of_no_plan(self):
        for thing in odd_things():
            self.refused(0, read_question, thing, "rows staff")
            self.refused(0, read_question, thing, thing)

    def test_the_first_part(self):
        for part in ("", " ", "row staff", "rows", "rows ", " rows staff", "rows  staff", "rows staff ", "rows staff pay",
                     "rows none", "rows Staff", "rows -", "where pay 7", "keep pay", "rows staff|", "rows staff |", "|", " | ",
                     "rows staff\n", "\nrows staff", "rows\nstaff"):
            self.refused(0, read_question, PLAN, part)
        for part in ("", "none", "rows none", "keep pay"):
            self.refused(0, read_question, PLAN, f"{part} | keep pay")
            self.refused(0, read_question, PLAN, f"{part} | wrong")

    def test_further_parts(self):
        wrong = ("", " ", "pay", "rows staff", "where", "where pay", "where pay 7 7", "where pay  7", "where pay 7 ", " where pay 7",
                 "where none 7", "where pay A", "where pay abcdefghi", "where pay 07", "where pay -0", "where pay +7",
                 "where pay 7.0", "where pay --", "where pay .", "where pay " + "9" * 19, "where - 7", "above pay", "above pay x",
                 "above pay -", "above none 7", "above pay 7 7", "above pay 00", "above pay -" + "9" * 19, "join boss",
                 "join boss none", "join none city", "join boss staff", "join boss land", "join boss city city", "join boss -",
                 "lacking boss", "lacking boss none", "lacking none tag", "lacking key tag tag", "keep", "keep ", "keep none",
                 "keep pay pay", "keep  pay", "keep pay ", "keep pay -", "top", "top ", "top none", "top pay none", "top pay boss boss",
                 "count ", "count none", "count pay pay", "count many", "sum", "sum ", "sum none", "sum pay none", "sum pay sum",
                 "sum pay boss boss", "wheres pay 7", "Where pay 7", "where pay 7\n", "where\npay 7", "| keep pay", "where|pay|7")
        for part in wrong:
            self.refused(1, read_question, PLAN, f"rows staff | {part}")
            self.refused(1, read_question, PLAN, f"rows staff | {part} | keep pay")
            self.refused(1, read_question, PLAN, f"rows staff | {part} | wrong")
            self.refused(3, read_question, PLAN, f"rows staff | above pay 0 | lacking key tag | {part}")
            self.assertEqual(wrong_part(f"rows staff | {part}"), 1, part)

    def test_columns_of_the_part_ahead(self):
        self.refused(2, read_question, PLAN, "rows staff | keep pay | keep home")
        self.refused(2, read_question, PLAN, "rows staff | count home | count home many")
        self.refused(2, read_question, PLAN, "rows staff | sum pay home | where pay 7")
        self.refused(2, read_question, PLAN, "rows staff | join home city | join boss city")
        self.refused(1, read_question, PLAN, "rows staff | keep land | join home city")

    def test_at_most_six_deep(self):
        part = " | above pay 1"
        self.assertEqual(show_question(read_question(PLAN, "rows staff" + part * 5)), "rows staff" + part * 5)
        for more in (6, 7, 30, 400):
            self.refused(6, read_question, PLAN, "rows staff" + part * more)
        self.refused(6, read_question, PLAN, "rows staff" + part * 5 + " | wrong")
        self.refused(5, read_question, PLAN, "rows staff" + part * 4 + " | wrong" + part)

    def test_many_figures(self):
        for many in (18, 19, 20, 4299, 4300, 4301, 5000):
            for sign in ("", "-"):
                for form in ("where", "above"):
                    text = f"rows staff | {form} pay {sign}{'9' * many}"
                    if many == 18:
                        self.assertEqual(read_question(PLAN, text)[3], int(sign + "9" * 18))
                    else:
                        self.refused(1, read_question, PLAN, text)
        self.refused(0, read_question, PLAN, "9" * 5000)

    def test_changed_at_each_place(self):
        for question, text in QUESTIONS[1::3] + QUESTIONS[-1:]:
            for place in range(len(text) + 1):
                for sign in ("", " ", "\n", "a", "|", "B", "0", "1", "-", " | ", ";"):
                    for end in (place, place + 1):
                        self.check(text[:place] + sign + text[end:])
                self.check(text[:place])
                self.check(text[place:])

    def check(self, text):
        part = wrong_part(text)
        if part is None:
            self.assertEqual(show_question(read_question(PLAN, text)), text)
        else:
            self.refused(part, read_question, PLAN, text)

    def test_soon(self):
        began = time.process_time()
        for text in (" | " * 2000, "rows staff" + " | keep pay" * 500, "rows " + "a" * 6000, "rows staff | keep" + " pay" * 1500,
                     "|" * 6000, " " * 6000, "rows staff | where pay " + "9" * 6000):
            self.check(text)
        for text in ("\n" * 6000, "table a\n" * 700, "table" + " a" * 2900, "table a" + "\nref a a" * 700, " " * 6000):
            row = wrong_row(text)
            self.refused(row, read_plan, text)
        self.assertLess(time.process_time() - began, 5)


if __name__ == "__main__":
    unittest.main()
