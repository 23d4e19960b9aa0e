"""Points 2, 3 and 6: plans, steps, deeds."""

import unittest

from bothtimes.plans import are_deeds, is_deed, is_plan, is_step
from tests.samples import LAST, PLAN, Odd, chances, nested, odd_things, random_deeds

PUT = ("put", "staff", "ann", ("x", 5), 3, 9)
CUT = ("cut", "staff", "ann", 3, 9)
DEED = (4, (PUT, CUT))


def table(name="a", columns=(), references=()):
    return (name, columns, references)


def changed(parts, at, part):
    return parts[:at] + (part,) + parts[at + 1:]


class Telling(unittest.TestCase):
    def accept(self, ask, *things):
        for thing in things:
            self.assertIs(ask(thing), True, thing)

    def refuse(self, ask, *things):
        for thing in things:
            self.assertIs(ask(thing), False)


class IsPlan(Telling):
    def test_one_to_six_tables(self):
        tables = tuple(table(name) for name in "abcdefg")
        self.accept(is_plan, PLAN, *[tables[:many] for many in range(1, 7)])
        self.refuse(is_plan, (), tables)

    def test_columns(self):
        self.accept(is_plan, (table(columns=("d", "c", "b", "a")),), (table(columns=("a",)),))
        self.refuse(is_plan, (table(columns=("a", "b", "c", "d", "e")),), (table(columns=("b", "b")),),
                    (table(columns=("b", "c", "b")),), (table(columns="b"),), (table(columns=("b", 1)),),
                    (table(columns=("b", None)),), (table(columns=(("b",),)),), (table(columns=None),))

    def test_words_that_are_taken(self):
        for word in ("key", "many", "sum"):
            self.refuse(is_plan, (table(columns=(word,)),), (table(columns=("b", word)),))
            self.accept(is_plan, (table(word),))
        self.accept(is_plan, (table(columns=("keys", "put", "cut", "rows")),))

    def test_words(self):
        self.accept(is_plan, (table("abcdefgh"),), (table(columns=("abcdefgh",)),))
        for word in ("abcdefghi", "A", "aB", "", " ", "a1", "a b", None, 1, True, b"a", ("a",)):
            self.refuse(is_plan, (table(word),), (table(columns=(word,)),))

    def test_tables_rise(self):
        self.refuse(is_plan, (table("b"), table("a")), (table("a"), table("a")), (table("a"), table("c"), table("b")),
                    (table("a"), table("a", ("b",))), (table("b"), table("ab")), (table("ab"), table("a")))
        self.accept(is_plan, (table("a"), table("ab")), (table("ab"), table("b")))

    def test_references(self):
        def plan(*references):
            return (table("a", ("c", "b", "d"), references), table("e"))
        self.accept(is_plan, plan(), plan(("b", "a")), plan(("b", "e")), plan(("b", "e"), ("c", "e"), ("d", "a")))
        self.refuse(is_plan, plan(("c", "e"), ("b", "e")), plan(("b", "e"), ("b", "e")), plan(("b", "a"), ("b", "e")),
                    plan(("x", "e")), plan(("b", "x")), plan(("b", "b")), plan(("key", "e")), plan(("e", "b")))
        self.refuse(is_plan, plan(("b",)), plan(("b", "e", "e")), plan(["b", "e"]), plan("be"), plan(None),
                    plan(("b", None)), plan((None, "e")), plan((1, "e")), plan(("b", ("e",))), plan(()))
        self.accept(is_plan, (table("a", ("b",), (("b", "c"),)), table("c", ("d",), (("d", "a"),))))

    def test_lists_in_the_place_of_tuples(self):
        self.refuse(is_plan, [table()], ["a", (), ()], (["a", (), ()],), (table(columns=["b"]),),
                    (table(references=[]),), (table(columns=("b",), references=[("b", "a")]),),
                    (table(columns=("b",), references=(["b", "a"],)),), list(PLAN))

    def test_parts(self):
        self.refuse(is_plan, (("a",),), (("a", ()),), (("a", (), (), ()),), ("a", (), ()), ((),), ("a",), "a")

    def test_anything(self):
        for thing in odd_things():
            self.refuse(is_plan, thing, (thing,), ((thing, (), ()),), (table("a"), thing), (table("a", thing),),
                        (table("a", ("b", thing)),), (table("a", ("b",), thing),), (table("a", ("b",), (thing,)),),
                        (table("a", ("b",), ((thing, "a"),)),), (table("a", ("b",), (("b", thing),)),))
        for depth in range(1, 41):
            self.refuse(is_plan, nested("tuple", PLAN, depth), nested("list", PLAN, depth))


class IsStep(Telling):
    def step(self, thing):
        return is_step(PLAN, thing)

    def test_steps(self):
        self.accept(self.step, PUT, CUT, ("put", "tag", "a", (), 0, 1), ("cut", "tag", "abcdefgh", 0, None),
                    ("put", "team", "put", (None,), 0, None), ("cut", "team", "cut", 5, 6))

    def test_parts_more_or_fewer(self):
        self.refuse(self.step, (), ("put",), ("cut",), PUT[:-1], PUT + (None,), PUT + (10,), CUT[:-1], CUT + (10,),
                    ("put",) + CUT[1:], ("cut",) + PUT[1:], PUT[1:], CUT[1:], list(PUT), list(CUT), (PUT,), "put")

    def test_first_part(self):
        for word in ("Put", "PUT", "cut", "", "puts", None, 0, True, b"put", ("put",), ["put"], Odd()):
            self.refuse(self.step, changed(PUT, 0, word))
        for word in ("Cut", "put", "", None, 1, b"cut", ("cut",), Odd()):
            self.refuse(self.step, changed(CUT, 0, word))

    def test_table_and_key(self):
        for good in (PUT, CUT):
            for word in ("tags", "", "Staff", None, 0, True, ("staff",), ["staff"], Odd()):
                self.refuse(self.step, changed(good, 1, word))
            for word in ("", "abcdefghi", "Ann", "a1", None, 0, True, ("ann",), ["ann"], Odd()):
                self.refuse(self.step, changed(good, 2, word))
        self.refuse(self.step, changed(PUT, 1, "tag"), changed(PUT, 1, "team"))
        self.accept(self.step, changed(CUT, 1, "tag"), changed(PUT, 2, "abcdefgh"))

    def test_worths(self):
        def put(*worths):
            return changed(PUT, 3, worths)
        self.accept(self.step, put("x", 5), put(None, None), put("x", "y"), put(None, -5), put("abcdefgh", 10 ** 18))
        self.refuse(self.step, put(), put("x"), put("x", 5, None), put("x", 5, 5), put(5, 5), put(0, None),
                    put("x", True), put(True, 5), put(False, None), put("x", "Y"), put("x", ""), put("", 5), put("X", 5),
                    put("x", (5,)), put(("x",), 5), put("x", [5]), put("abcdefghi", 5), put("x", "abcdefghi"))
        self.refuse(self.step, changed(PUT, 3, ["x", 5]), changed(PUT, 3, None), changed(PUT, 3, "xy"),
                    changed(PUT, 3, 5), changed(PUT, 3, {}), changed(PUT, 3, Odd()))
        self.refuse(self.step, ("put", "tag", "a", (None,), 0, 1), ("put", "tag", "a", None, 0, 1))
        self.refuse(self.step, ("put", "team", "a", (5,), 0, 1))

    def test_spans(self):
        for good in (PUT, CUT):
            for low, high in ((0, 1), (0, None), (LAST, None), (LAST - 1, LAST), (0, LAST)):
                self.accept(self.step, good[:-2] + (low, high))
            for low, high in ((3, 3), (3, 2), (0, 0), (-1, 5), (-1, None), (0, LAST + 1), (LAST + 1, None), (LAST, LAST),
                              (None, 5), (None, None), (True, 5), (0, True), ("a", 5), (0, "a"), ((0,), 5), ([0], [1])):
                self.refuse(self.step, good[:-2] + (low, high))

    def test_references_need_not_hold(self):
        self.accept(self.step, ("put", "team", "a", ("nobody",), 0, None))

    def test_anything(self):
        for thing in odd_things():
            self.refuse(self.step, thing, (thing,) * 5, (thing,) * 6, (thing,) + PUT[1:], (thing,) + CUT[1:])
            for good in (PUT, CUT):
                for at in range(len(good) - 1):
                    self.refuse(self.step, changed(good, at, thing))
                if thing is not None:
                    self.refuse(self.step, changed(good, len(good) - 1, thing))
            if thing is not None:
                self.refuse(self.step, changed(PUT, 3, (thing, 5)), changed(PUT, 3, ("x", thing)))
        for depth in range(1, 41):
            self.refuse(self.step, nested("tuple", PUT, depth), nested("tuple", CUT, depth))

    def test_no_plan_has_steps_or_deeds(self):
        for thing in odd_things():
            for ask, good in ((is_step, PUT), (is_deed, DEED), (are_deeds, (DEED,)), (are_deeds, ())):
                self.assertIs(ask(thing, good), False)


class IsDeed(Telling):
    def deed(self, thing):
        return is_deed(PLAN, thing)

    def test_deeds(self):
        self.accept(self.deed, DEED, (0, (PUT,)), (LAST, (CUT,)), (3, (PUT, PUT, CUT, PUT)))

    def test_days(self):
        for day in (-1, LAST + 1, True, False, None, "a", "4", (4,), [4], Odd()):
            self.refuse(self.deed, (day, (PUT,)))

    def test_steps(self):
        self.refuse(self.deed, (4, ()), (4, [PUT]), (4, PUT), (4, None), (4, 5), (4, "put"), (4, {}), (4, (PUT, ())),
                    (4, (PUT, None)), (4, (list(PUT),)), (4, (PUT, changed(PUT, 1, "nil"))), (4, ((PUT,),)))

    def test_parts(self):
        self.refuse(self.deed, (), (4,), (4, (PUT,), ()), (4, PUT, CUT), [4, (PUT,)], 4, ((4, (PUT,)),), PUT)

    def test_anything(self):
        for thing in odd_things():
            self.refuse(self.deed, thing, (thing,), (thing, thing), (thing, (PUT,)), (4, thing), (4, (thing,)),
                        (4, (PUT, thing)))
        for depth in range(1, 41):
            self.refuse(self.deed, nested("tuple", DEED, depth), nested("list", DEED, depth))


class AreDeeds(Telling):
    def deeds(self, thing):
        return are_deeds(PLAN, thing)

    def test_deeds(self):
        self.accept(self.deeds, (), (DEED,), (DEED, DEED), ((0, (PUT,)), (LAST, (CUT,))), ((3, (PUT,)), (3, (CUT,))))
        for chance in chances(50, 6):
            self.accept(self.deeds, random_deeds(chance))

    def test_days_that_fall(self):
        self.refuse(self.deeds, ((4, (PUT,)), (3, (PUT,))), ((1, (PUT,)), (5, (PUT,)), (4, (PUT,))),
                    ((1, (PUT,)), (0, (PUT,)), (2, (PUT,))))

    def test_wrong_deeds(self):
        self.refuse(self.deeds, DEED, [DEED], [], (DEED, None), (DEED, ()), (DEED, (5, ())), ((True, (PUT,)),),
                    (list(DEED),), ((DEED,),), None, 0, "", {})

    def test_anything(self):
        for thing in odd_things():
            self.refuse(self.deeds, thing, (thing,), (DEED, thing), (thing, DEED), ((4, (PUT, thing)), DEED))
        for depth in range(1, 41):
            self.refuse(self.deeds, nested("tuple", DEED, depth + 1), nested("list", (DEED,), depth))

    def test_many_deeds_of_far_days(self):
        put = ("put", "staff", "ann", ("x", 5), 0, LAST)
        self.accept(self.deeds, tuple((number * 10 ** 10, (put, put, put)) for number in range(60)))


if __name__ == "__main__":
    unittest.main()
