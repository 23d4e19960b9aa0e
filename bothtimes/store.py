"""A store: deeds of a plan told one behind the other, and views kept through them."""

from bothtimes.corrections import check_fit, is_patch, steps_behind
from bothtimes.days import FIRST, MOST, is_day, is_span, is_word
from bothtimes.errors import Broken, Busy, Early, Full, NoDeed, NoQuestion, NoTable, NoView, Twice
from bothtimes.lines import filled
from bothtimes.patches import patch_between
from bothtimes.plans import is_deed, table_named
from bothtimes.questions import is_question
from bothtimes.references import least_break
from bothtimes.spans import spans
from bothtimes.steps import step_of
from bothtimes.story import line_of, lines_behind, rows_at
from bothtimes.views import touched_spans
from bothtimes.writing import ROW_WORDS, deeds_text


class Store:
    """At most so many deeds of a plan, none of which breaks a reference."""

    def __init__(self, plan, *, most=MOST):
        self.plan = plan
        self.most = most
        self.told = ()
        # The lines by (table, key) that the deeds told come to: a new dict behind each deed, so that the one ahead
        # of several deeds can be had back as it was.
        self.lines = {}
        # By name: a view's question, and how many deeds were told when it was kept.
        self.kept = {}
        self.busy = False

    def tell(self, day, steps):
        """Tell one deed more, of these steps; tell its patch."""
        self.check_free()
        return self.take(day, steps)

    def restore(self, day, table, key, *, known, low=FIRST, high=None):
        """Tell one deed more that puts on these days what is known on known to hold on them; tell its patch."""
        self.check_free()
        named = table_named(self.plan, table) is not None and is_word(key)
        asked = is_span(low, high) and (known is None or is_day(known))
        if not is_day(day) or not named or not asked:
            raise NoDeed()
        self.check_room(day)
        pieces = filled(line_of(self.told, table, key, known=known), low, high)
        return self.stand(day, tuple([step_of(table, key, first, last, worths) for first, last, worths in pieces]))

    def correct(self, day, patch):
        """Tell one deed more that puts what the patch has behind, where it finds what it has ahead; tell its patch."""
        self.check_free()
        if not is_day(day) or not is_patch(self.plan, patch) or len(patch) == 0:
            raise NoDeed()
        self.check_room(day)
        check_fit(self.lines, patch)
        return self.stand(day, steps_behind(patch))

    def tell_all(self, deeds, *, each=None):
        """Tell deeds one behind the other, all of them or none; hand each one's patch to each; tell the patches."""
        self.check_free()
        if not are_pairs(deeds):
            raise NoDeed()
        told = self.told
        lines = self.lines
        patches = None
        self.busy = True
        try:
            patches = self.take_each(deeds, each)
        finally:
            self.busy = False
            if patches is None:
                self.told = told
                self.lines = lines
        return patches

    def take_each(self, deeds, each):
        """Take deeds one behind the other, and hand each one's patch to each; tell the patches."""
        patches = []
        for day, steps in deeds:
            changes = self.take(day, steps)
            patches.append(changes)
            if each is not None:
                each(changes)
        return tuple(patches)

    def take(self, day, steps):
        """Take one deed more, whatever it is made of, or refuse it; tell its patch."""
        if not is_deed(self.plan, (day, steps)):
            raise NoDeed()
        self.check_room(day)
        return self.stand(day, steps)

    def check_free(self):
        """Refuse changes while several deeds are being told."""
        if self.busy:
            raise Busy()

    def check_room(self, day):
        """Refuse one deed more where there are as many as can be, or where its day is below the last one's."""
        if len(self.told) >= self.most:
            raise Full(self.most)
        if self.told and day < self.told[-1][0]:
            raise Early(self.told[-1][0])

    def stand(self, day, steps):
        """Take one deed more that is a deed, unless a reference breaks behind it; tell its patch."""
        lines = lines_behind(self.lines, steps)
        place = least_break(self.plan, lines)
        if place is not None:
            first, table, key, column = place
            raise Broken(first, table, key, column)
        changes = patch_between(self.lines, lines)
        self.told = self.told + ((day, steps),)
        self.lines = lines
        return changes

    def deeds(self):
        """Tell all deeds told."""
        return self.told

    def line(self, table, key, *, known=None):
        """Tell the line of the key's worths as known on a day, or by all deeds."""
        self.check_table(table)
        return line_of(self.told, table, key, known=known)

    def rows(self, table, day, *, known=None, only=None):
        """Tell the rising (key, worths) that hold on the day, those alone of which only tells True."""
        self.check_table(table)
        held = rows_at(self.told, table, day, known=known)
        if only is None:
            return held
        return tuple([(key, worths) for key, worths in held if only(key, worths) is True])

    def check_table(self, table):
        """Refuse anything that names no table of the plan."""
        if table_named(self.plan, table) is None:
            raise NoTable(table)

    def keep(self, name, question):
        """Keep a view of the question by this name."""
        self.check_free()
        if not is_word(name) or not is_question(self.plan, question):
            raise NoQuestion()
        if name in self.kept:
            raise Twice(name)
        self.kept[name] = (question, len(self.told))

    def drop(self, name):
        """Keep the view of this name no longer."""
        self.check_free()
        self.check_view(name)
        del self.kept[name]

    def view(self, name):
        """Tell the spans of the view's question, all known."""
        self.check_view(name)
        question, since = self.kept[name]
        return spans(self.plan, self.told, question)

    def touched(self, name):
        """Tell where the view is otherwise than ahead of the last deed told since it was kept."""
        self.check_view(name)
        question, since = self.kept[name]
        if len(self.told) == since:
            return ()
        return touched_spans(spans(self.plan, self.told[:-1], question), spans(self.plan, self.told, question))

    def views(self):
        """Tell the names of the views kept, rising."""
        return tuple(sorted(self.kept))

    def check_view(self, name):
        """Refuse anything that names no view."""
        if not is_word(name) or name not in self.kept:
            raise NoView(name)

    def __eq__(self, other):
        return isinstance(other, Store) and self.plan == other.plan and self.told == other.told

    def __len__(self):
        return len(self.told)

    def __repr__(self):
        return f"Store({len(self.told)})"

    def __str__(self):
        return str(deeds_text(self.told, ROW_WORDS))


def are_pairs(thing):
    """Tell whether anything is a tuple of pairs."""
    return isinstance(thing, tuple) and all([isinstance(pair, tuple) and len(pair) == 2 for pair in thing])
