"""Points 4 (g), 4 (h), 14 and 17: a desk that is told and asked by lines of text."""

import re
import time
import unittest

from bothtimes.answers import answer
from bothtimes.desk import Desk
from bothtimes.errors import Broken, Early, Full, NoDeed, NoLine, NoTable, NoText, NoView, Twice
from bothtimes.logs import come_up
from bothtimes.showing import show_plan, show_question
from bothtimes.spans import spans
from bothtimes.store import Store
from tests import asked
from tests.asked import random_question
from tests.samples import LAST, chances, odd_things, random_row_step
from tests.stores import PLAN, all_rows, outcome

TEXT = show_plan(PLAN)
QUESTION = "rows staff | keep pay"
NAME = "[a-z]{1,8}"
DAY = "(?:0|[1-9][0-9]{0,11}|1000000000000)"
END = f"(?:-|{DAY})"
THING = f"(?:-|0|-?[1-9][0-9]{{0,17}}|{NAME})"
STEP = f"(?:put {NAME} {NAME} {DAY} {END}(?: {THING})*|cut {NAME} {NAME} {DAY} {END})"
FORMS = (f"tell {DAY} {STEP}(?: ; {STEP})*", f"restore {DAY} {NAME} {NAME} {DAY} {END} {END}", f"line {NAME} {NAME} {END}",
         f"rows {NAME} {DAY} {END}", f"ask {DAY} {END} (?s:.*)", f"spans {END} (?s:.*)", f"(?:view|drop|touched) {NAME}",
         f"keep {NAME} (?s:.*)", "log")


def word(thing):
    return "-" if thing is None else str(thing)


def written(things):
    return " ".join(map(word, things))


def listed(rows):
    return " ; ".join(map(written, rows)) or "."


def patch_written(pieces):
    rows = []
    for *place, ahead, behind in pieces:
        sides = ["." if worths is None else written(worths) for worths in (ahead, behind)]
        rows.append(" ".join(part for part in (written(place), sides[0], ">", sides[1]) if part))
    return " ; ".join(rows) or "."


def step_written(step):
    if step[0] == "cut":
        return written(step)
    return written(step[:3] + step[4:] + step[3])


def tell_line(day, steps):
    return f"tell {day} " + " ; ".join(map(step_written, steps))


class Asking(unittest.TestCase):
    def setUp(self):
        self.desk = Desk(TEXT)

    def says(self, line, due):
        self.assertEqual(self.desk.say(line), due, line)

    def refused(self, kind, line, **values):
        ahead = self.desk.say("log")
        with self.assertRaises(kind) as caught:
            self.desk.say(line)
        self.assertIs(type(caught.exception), kind, line)
        self.assertEqual(vars(caught.exception), values, line)
        self.assertEqual(self.desk.say("log"), ahead)

    def no_line(self, *lines):
        for line in lines:
            self.refused(NoLine, line)


class Made(unittest.TestCase):
    def test_no_text(self):
        for thing, row in [(thing, 0) for thing in odd_things() if not isinstance(thing, str)] + [
                ("", 0), ("table", 0), ("table a\n", 1), ("table b\ntable a", 2), ("ref a b", 0), (TEXT + "\n", 5), (PLAN, 0)]:
            with self.assertRaises(NoText) as caught:
                Desk(thing)
            self.assertIs(type(caught.exception), NoText)
            self.assertEqual(vars(caught.exception), {"row": row})

    def test_each_has_a_store_of_its_own(self):
        one, other = Desk("table a"), Desk("table a")
        one.say("tell 5 put a k 0 -")
        self.assertEqual((one.say("line a k -"), other.say("line a k -")), ("0 -", "."))


class Forms(Asking):
    def test_tell(self):
        self.says("tell 3 put city ulm 0 - x", "city ulm 0 - . > x")
        self.says("tell 3 put staff ann 2 9 ulm -5 - ; put city ulm 4 6 7", "city ulm 4 6 x > 7 ; staff ann 2 9 . > ulm -5 -")
        self.says("tell 4 put staff ann 3 4 - - - ; cut staff ann 5 1000000000000",
                  "staff ann 3 4 ulm -5 - > - - - ; staff ann 5 9 ulm -5 - > .")
        self.says("tell 4 put city ulm 4 6 7", ".")
        self.says("tell 4 cut tag a 0 -", ".")
        self.says("tell 1000000000000 put city bonn 0 1 999999999999999999", "city bonn 0 1 . > 999999999999999999")

    def test_tell_of_a_table_without_columns(self):
        self.says("tell 3 put tag a 2 9", "tag a 2 9 . >")
        self.says("tell 3 cut tag a 4 - ; put tag b 0 -", "tag a 4 9 > . ; tag b 0 - . >")
        self.says("line tag a -", "2 4")
        self.says("rows tag 3 -", "a ; b")

    def test_restore(self):
        self.says("tell 3 put staff ann 2 9 - 5 -", "staff ann 2 9 . > - 5 -")
        self.says("tell 5 put staff ann 0 - - 7 -", "staff ann 0 2 . > - 7 - ; staff ann 2 9 - 5 - > - 7 - ; staff ann 9 - . > - 7 -")
        self.says("restore 6 staff ann 4 - 3", "staff ann 4 9 - 7 - > - 5 - ; staff ann 9 - - 7 - > .")
        self.says("restore 6 staff ann 0 - -", ".")
        self.says("restore 7 staff ann 0 6 0", "staff ann 0 4 - 7 - > . ; staff ann 4 6 - 5 - > .")
        self.says("log", "on 3\nput staff ann 2 9 - 5 -\nend 29\non 5\nput staff ann 0 - - 7 -\nend 29\n"
                         "on 6\nput staff ann 4 9 - 5 -\ncut staff ann 9 -\nend 47\n"
                         "on 6\nput staff ann 0 4 - 7 -\nput staff ann 4 9 - 5 -\ncut staff ann 9 -\nend 71\n"
                         "on 7\ncut staff ann 0 6\nend 23\n")

    def test_line_and_rows(self):
        self.desk.say("tell 3 put staff ann 2 9 - 5 - ; put staff bob 0 - - x ann ; cut staff bob 0 2 ; cut staff bob 9 -")
        self.desk.say("tell 5 put staff ann 4 6 - -7 -")
        self.says("line staff ann -", "2 4 - 5 - ; 4 6 - -7 - ; 6 9 - 5 -")
        self.says("line staff ann 4", "2 9 - 5 -")
        self.says("line staff ann 2", ".")
        self.says("line staff zoe -", ".")
        self.says("rows staff 4 -", "ann - -7 - ; bob - x ann")
        self.says("rows staff 4 3", "ann - 5 - ; bob - x ann")
        self.says("rows staff 9 -", ".")
        self.says("rows staff 4 0", ".")
        self.refused(NoTable, "line none ann -", name="none")
        self.refused(NoTable, "rows none 4 -", name="none")

    def test_ask_and_spans(self):
        self.desk.say("tell 3 put staff ann 2 9 - 5 - ; put staff bob 4 - - - -")
        self.desk.say("tell 5 put staff ann 3 4 - 8 -")
        self.says("ask 3 - rows staff", "ann - 8 -")
        self.says("ask 3 4 rows staff", "ann - 5 -")
        self.says("ask 1 - rows staff", ".")
        self.says("ask 5 - " + QUESTION, "- ; 5")
        self.says("ask 5 - rows staff | count", "2")
        self.says("spans - " + QUESTION, "- 4 - ; 5 2 3 ; 5 4 9 ; 8 3 4")
        self.says("spans 3 " + QUESTION, "- 4 - ; 5 2 9")
        self.says("spans 2 " + QUESTION, ".")
        self.says("spans - rows staff | top pay", "ann - 5 - 2 3 ; ann - 5 - 4 9 ; ann - 8 - 3 4")

    def test_great_sums(self):
        self.desk.say("tell 3 put staff ann 0 - - 999999999999999999 - ; put staff bob 0 - - 999999999999999999 -")
        self.says("ask 3 - rows staff | sum pay", "1999999999999999998")

    def test_views(self):
        self.says("keep pays " + QUESTION, "done")
        self.says("view pays", ".")
        self.says("touched pays", ".")
        self.desk.say("tell 3 put staff ann 2 9 - 5 -")
        self.says("view pays", "5 2 9")
        self.says("touched pays", "5 2 9 1")
        self.desk.say("tell 3 put staff ann 4 12 - - -")
        self.says("view pays", "- 4 12 ; 5 2 4")
        self.says("touched pays", "- 4 12 1 ; 5 4 9 0")
        self.says("keep log rows tag", "done")
        self.says("view log", ".")
        self.refused(Twice, "keep pays rows tag", name="pays")
        self.says("drop pays", "done")
        for form in ("view", "touched", "drop"):
            self.refused(NoView, form + " pays", name="pays")
            self.refused(NoView, form + " none", name="none")
        self.says("keep pays rows tag", "done")

    def test_log(self):
        self.says("log", ".")
        self.desk.say("tell 3 cut tag a 0 -")
        self.says("log", "on 3\ncut tag a 0 -\nend 19\n")
        self.desk.say("tell 3 put staff ann 2 9 - on - ; put tag end 0 7")
        self.says("log", "on 3\ncut tag a 0 -\nend 19\non 3\nput staff ann 2 9 - on -\nput tag end 0 7\nend 46\n")


class Refused(Asking):
    def test_anything(self):
        for thing in odd_things() + [5, b"log", ["log"], ("log",)]:
            with self.assertRaises(NoLine) as caught:
                self.desk.say(thing)
            self.assertEqual(vars(caught.exception), {})

    def test_no_form(self):
        self.no_line("", " ", "log ", " log", "log log", "logs", "Log", "log\n", "\nlog", "none", "correct 3 a", "views", "tell",
                     "restore", "line", "rows", "ask", "spans", "keep", "drop", "view", "touched", "end 5", "on 5", "put tag a 0 -",
                     "deeds", "log 5", "merged", "-", ".", ";")

    def test_tell(self):
        for day in ("", "-", "x", "-1", "07", "+7", "1000000000001", "9" * 19, "9" * 5000, "7.0", "A"):
            self.no_line(f"tell {day} put tag a 0 -")
        self.no_line("tell 3", "tell 3 ", "tell 3  put tag a 0 -", "tell  3 put tag a 0 -", "tell 3 put tag a 0 - ", "tell put tag a 0 -",
                     "tell 3 put tag a 0 - ;", "tell 3 put tag a 0 - ; ", "tell 3 ; put tag a 0 -", "tell 3 put tag a 0 -; cut tag a 0 -",
                     "tell 3 put tag a 0 - ;  cut tag a 0 -", "tell 3 put tag a 0 -  ; cut tag a 0 -", "tell 3 put tag a 0 - ; ; cut tag a 0 -",
                     "tell 3 set tag a 0 -", "tell 3 put tag a 0", "tell 3 put tag a", "tell 3 put", "tell 3 cut tag a 0 - -",
                     "tell 3 cut tag a 0 - 5", "tell 3 put Tag a 0 -", "tell 3 put tag A 0 -", "tell 3 put tag abcdefghi 0 -",
                     "tell 3 put abcdefghi a 0 -", "tell 3 put - a 0 -", "tell 3 put tag - 0 -", "tell 3 put tag 5 0 -",
                     "tell 3 put tag a - -", "tell 3 put tag a x -", "tell 3 put tag a 0 x", "tell 3 put tag a -1 -",
                     "tell 3 put tag a 0 -1", "tell 3 put tag a 00 -", "tell 3 put tag a 0 1000000000001",
                     "tell 3 put tag a 1000000000001 -", "tell 3 put city a 0 - A", "tell 3 put city a 0 - 07", "tell 3 put city a 0 - -0",
                     "tell 3 put city a 0 - " + "9" * 19, "tell 3 put city a 0 - " + "9" * 5000, "tell 3 put city a 0 - .",
                     "tell 3 put city a 0 - abcdefghi", "tell 3 put city a 0 - ;", "tell 3 put tag a 0 -\n", "tell 3\nput tag a 0 -",
                     "tell 3 put tag a 0 - | put tag a 0 -", "tell 3 put tag a 0 - > .")

    def test_changed_at_each_place(self):
        lines = ("tell 3 put staff ann 2 19 - -5 x ; cut tag a 0 -", "tell 1000000000000 put tag a 0 999999999999",
                 "restore 3 staff ann 0 10 25", "restore 3 staff ann 5 - -", "line staff ann 30", "rows staff 3 -",
                 "ask 3 - rows staff | keep pay", "spans 20 rows tag", "keep v rows tag", "drop v", "view v", "touched v", "log")
        said = 0
        for line in lines:
            for place in range(len(line) + 1):
                for sign in ("", " ", "\n", "a", "Z", "0", "7", "-", ";", " ; ", "."):
                    for end in (place, place + 1):
                        said += self.said_or_no_line(line[:place] + sign + line[end:])
        self.assertGreater(said, 500)

    def said_or_no_line(self, line):
        """Whether a line is of a form; refused with NoLine it is just where it is of none."""
        desk = Desk(TEXT)
        told = outcome(desk.say, line)
        of_a_form = any(re.fullmatch(form, line) for form in FORMS)
        self.assertEqual(told != ("NoLine", {}), of_a_form, line)
        return of_a_form

    def test_tell_of_whatever_table_span_and_worths(self):
        for step in ("put none a 0 -", "cut none a 0 -", "put tag a 5 5", "put tag a 6 5", "cut tag a 5 5", "put tag a 0 - 5",
                     "put city a 0 -", "put city a 0 - 5 5", "put staff a 0 - 5 5 -", "put staff a 0 - - 5 5", "put staff a 0 - - 5"):
            self.refused(NoDeed, "tell 3 " + step)
            self.refused(NoDeed, "tell 3 put tag a 0 - ; " + step)

    def test_as_the_store_refuses(self):
        self.desk.say("tell 3 put city ulm 2 9 - ; put staff ann 2 9 ulm 5 -")
        self.refused(Early, "tell 2 put tag a 0 -", last=3)
        self.refused(Early, "restore 2 tag a 0 - -", last=3)
        home = {"table": "staff", "key": "ann", "column": "home"}
        self.refused(Broken, "tell 3 cut city ulm 4 5", day=4, **home)
        self.refused(Broken, "restore 3 city ulm 5 - 2", day=5, **home)

    def test_restore(self):
        self.no_line("restore 3 tag a 0 -", "restore 3 tag a 0 - - -", "restore 3 tag a 0 - x", "restore x tag a 0 - -",
                     "restore - tag a 0 - -", "restore 3 Tag a 0 - -", "restore 3 tag A 0 - -", "restore 3 tag - 0 - -",
                     "restore 3 tag a - - -", "restore 3 tag a 0 x -", "restore 3 tag a 0 - -1", "restore 3 tag a 0 - 07",
                     "restore 3 tag a 0 1000000000001 -", "restore 3 tag a 1000000000001 - -", "restore 3 tag a 0 - 1000000000001",
                     "restore 3  tag a 0 - -", "restore 3 tag a 0 -  -", "restore 3 tag a 0 - - ", "restore 3 tag a 0 - \n")
        self.refused(NoDeed, "restore 3 none a 0 - -")
        self.refused(NoDeed, "restore 3 tag a 5 5 -")
        self.refused(NoDeed, "restore 3 tag a 6 5 0")

    def test_line_and_rows(self):
        self.no_line("line staff", "line staff ann", "line staff ann - -", "line staff ann x", "line staff ann -1", "line staff ann 07",
                     "line staff ann 1000000000001", "line Staff ann -", "line staff Ann -", "line staff - -", "line - ann -",
                     "line  staff ann -", "line staff ann  -", "line staff ann - ", "rows staff", "rows staff 3", "rows staff 3 - -",
                     "rows staff - -", "rows staff x -", "rows staff -1 -", "rows staff 3 x", "rows staff 3 -1", "rows Staff 3 -",
                     "rows staff 03 -", "rows staff 1000000000001 -", "rows staff 3  -", "rows  staff 3 -", "rows staff 3 - ")

    def test_questions(self):
        for head in ("ask 3 -", "ask 3 5", "spans -", "spans 5", "keep v"):
            self.no_line(head)
            for text, row in (("", 0), (" rows staff", 0), ("  ", 0), ("rows", 0), ("rows none", 0), ("rows staff ", 0), ("none", 0),
                              ("rows staff | ", 1), ("rows staff | keep", 1), ("rows staff | keep pay | keep home", 2),
                              ("rows staff | where pay " + "9" * 5000, 1), ("rows staff" + " | above pay 1" * 6, 6),
                              ("rows staff\n", 0), ("rows staff ; rows tag", 0)):
                self.refused(NoText, f"{head} {text}", row=row)
        self.no_line("ask", "ask 3", "ask 3 ", "ask - - rows staff", "ask 3 x rows staff", "ask 3 rows staff", "ask x - rows staff",
                     "ask 3  - rows staff", "ask  3 - rows staff", "ask -1 - rows staff", "ask 3 -1 rows staff", "ask 03 - none",
                     "ask 1000000000001 - none", "ask 3 1000000000001 none", "spans", "spans ", "spans x rows staff",
                     "spans rows staff", "spans -1 rows staff", "spans 07 none", "spans  - rows staff", "keep", "keep ", "keep V rows tag",
                     "keep 5 rows tag", "keep - rows tag", "keep abcdefghi rows tag", "keep  v rows tag", "keep v", " keep v rows tag")

    def test_no_text_ahead_of_twice(self):
        self.desk.say("keep v rows tag")
        self.refused(NoText, "keep v rows none", row=0)
        self.refused(Twice, "keep v rows tag", name="v")
        self.refused(NoLine, "keep V rows none")

    def test_views(self):
        for form in ("view", "touched", "drop"):
            self.no_line(form, form + " ", form + " V", form + " 5", form + " -", form + " v v", form + "  v", form + " v ",
                         form + " abcdefghi", form + " v\n")
            self.refused(NoView, form + " v", name="v")

    def test_refused_deeds_leave_views_as_they_were(self):
        self.desk.say("keep v " + QUESTION)
        self.desk.say("tell 3 put staff ann 2 9 - 5 -")
        for line in ("tell 2 put staff ann 2 9 - 6 -", "tell 3 put staff ann 0 - none 6 -", "tell 3 put none ann 0 -", "tell 3 x",
                     "restore 2 staff ann 0 - -", "restore 3 staff ann 5 5 -", "keep v rows tag", "drop w"):
            self.assertRaises((ValueError, LookupError), self.desk.say, line)
            self.says("view v", "5 2 9")
            self.says("touched v", "5 2 9 1")
            self.says("log", "on 3\nput staff ann 2 9 - 5 -\nend 29\n")

    def test_sixty_deeds_and_one_more(self):
        for number in range(60):
            self.desk.say(f"tell {number} put tag a {number} -")
        self.refused(Full, "tell 60 put tag b 0 -", most=60)
        self.refused(Full, "tell 6 put tag b 0 -", most=60)
        self.refused(NoDeed, "tell 6 put none b 0 -")
        self.refused(Full, "restore 60 tag a 0 - -", most=60)
        self.says("line tag a -", "0 -")


class Whole(unittest.TestCase):
    """A desk answers as a store to which the same was told."""

    def test_as_a_store(self):
        sorts = {}
        for chance in chances(40, 160):
            desk, store = Desk(show_plan(asked.PLAN)), Store(asked.PLAN)
            for number in range(25):
                line, due = self.some_line(chance, store, number)
                if isinstance(due, tuple):
                    self.assertEqual(outcome(desk.say, line), due, line)
                else:
                    self.assertEqual(desk.say(line), due, line)
                sort = due[0] if isinstance(due, tuple) else line.split(" ")[0]
                sorts[sort] = sorts.get(sort, 0) + 1
                self.assertEqual(desk.say("log"), str(store) or ".")
        for sort in ("tell", "restore", "line", "rows", "ask", "spans", "keep", "drop", "view", "touched", "Broken", "Early", "NoView",
                     "Twice", "NoText"):
            self.assertGreater(sorts.get(sort, 0), 8, sorts)

    def some_line(self, chance, store, number):
        """A line, and what is due: an answer, or a refusal."""
        day = max(0, (store.deeds()[-1][0] if len(store) else 1) + chance.choice([0, 0, 0, 1, 2, -1]))
        known = chance.choice([None, 0, 2, 5])
        table, key = chance.choice(["city", "land", "staff", "tag"]), chance.choice(asked.KEYS)
        name = chance.choice("vw")
        question = random_question(chance, 1 + chance.randrange(4))
        if chance.random() < 0.1:
            question = ("rows", "none")
        text = show_question(question)
        sort = chance.choice(["tell"] * 4 + ["restore", "line", "rows", "ask", "spans", "keep", "drop", "view", "touched", "touched"])
        asks = {
            "line": (f"line {table} {key} {word(known)}",
                     lambda: listed((low, high, *worths) for low, high, worths in store.line(table, key, known=known))),
            "rows": (f"rows {table} {day + 3} {word(known)}",
                     lambda: listed((key, *worths) for key, worths in store.rows(table, day + 3, known=known))),
            "ask": (f"ask {day + 3} {word(known)} {text}",
                    lambda: listed(answer(asked.PLAN, store.deeds(), question, day + 3, known=known))),
            "spans": (f"spans {word(known)} {text}",
                      lambda: listed((*row, low, high) for row, low, high in spans(asked.PLAN, store.deeds(), question, known=known))),
            "keep": (f"keep {name} {text}", lambda: store.keep(name, question) or "done"),
            "drop": (f"drop {name}", lambda: store.drop(name) or "done"),
            "view": (f"view {name}", lambda: listed((*row, low, high) for row, low, high in store.view(name))),
            "touched": (f"touched {name}", lambda: listed((*row, *rest) for row, *rest in store.touched(name))),
        }
        if number == 0:
            steps = all_rows(asked.PLAN, asked.KEYS)
            return tell_line(0, steps), patch_written(store.tell(0, steps))
        if sort == "tell":
            steps = tuple(random_row_step(chance, asked.PLAN, asked.KEYS, cuts=0.1) for place in range(1 + chance.randrange(4)))
            told = outcome(store.tell, day, steps)
        elif sort == "restore":
            told = outcome(store.restore, day, table, key, known=known, low=4, high=9)
        else:
            line, ask = asks[sort]
            if question == ("rows", "none") and sort in ("ask", "spans", "keep"):
                return line, ("NoText", {"row": 0})
            return line, outcome(ask)
        line = tell_line(day, steps) if sort == "tell" else f"restore {day} {table} {key} 4 9 {word(known)}"
        return line, told if told and isinstance(told[0], str) else patch_written(told)

    def test_told_the_deeds_that_came_up(self):
        for chance in chances(25, 161):
            store = Store(PLAN)
            store.tell(0, all_rows(PLAN, ["aa", "ab"]))
            for number in range(6):
                outcome(store.tell, number, tuple(random_row_step(chance, PLAN, ["aa", "ab"], cuts=0.1) for place in range(3)))
            log = str(store)
            for place in [len(log)] + [chance.randrange(len(log)) for number in range(6)]:
                self.check_cut(store, log[:place])

    def check_cut(self, store, text):
        came, signs = come_up(PLAN, text)
        desk = Desk(TEXT)
        desk.say("keep v rows staff | keep pay")
        came.keep("v", ("keep", ("rows", "staff"), ("pay",)))
        for day, steps in came.deeds():
            desk.say(tell_line(day, steps))
        self.assertEqual(came.deeds(), store.deeds()[:len(came)])
        self.assertEqual(desk.say("log"), text[:signs] or ".")
        self.assertEqual(desk.say("view v"), listed((*row, low, high) for row, low, high in came.view("v")))
        for table in ("city", "staff", "tag"):
            for key in ("aa", "ab"):
                for known in (None, 0, 3):
                    self.assertEqual(desk.say(f"line {table} {key} {word(known)}"),
                                     listed((low, high, *worths) for low, high, worths in came.line(table, key, known=known)))


class Soon(unittest.TestCase):
    def test_sixty_deeds_of_two_hundred_steps(self):
        began = time.process_time()
        desk = Desk(TEXT)
        desk.say("keep v rows staff | count home")
        for number in range(60):
            steps = " ; ".join(f"put staff {first}{second} {number * 10 ** 9 + place} {LAST - number} - {number} -"
                               for place, (first, second) in enumerate(["a" + "abcdefghij"[number % 10], "bc", "de"]))
            desk.say(f"tell {number} {steps}")
            desk.say("view v")
            desk.say("touched v")
            desk.say(f"ask {number * 10 ** 9} - rows staff | top pay")
        self.assertEqual(len(desk.say("log").split("\n")), 60 * 5 + 1)
        self.assertLess(time.process_time() - began, 15)

    def test_long_lines(self):
        began = time.process_time()
        desk = Desk(TEXT)
        steps = " ; ".join(["put tag a 0 -"] * 370)
        self.assertEqual(desk.say("tell 3 " + steps), "tag a 0 - . >")
        for line in ("tell 3 " + "; " * 3000, "tell 3 " + "put " * 1400, " " * 6000, "tell " + "9" * 6000, "log" * 2000,
                     "tell 3 put city a 0 - " + "a" * 5900):
            self.assertRaises(NoLine, desk.say, line)
        self.assertRaises(NoDeed, desk.say, "tell 3 put city a 0 -" + " a" * 2900)
        self.assertRaises(NoText, desk.say, "ask 3 - " + " | " * 1900)
        self.assertLess(time.process_time() - began, 5)


if __name__ == "__main__":
    unittest.main()
