"""Two stores merged into a new one."""

from bothtimes.corrections import steps_behind
from bothtimes.errors import Clash, Unlike
from bothtimes.lines import beside
from bothtimes.patches import changes_of, patch_between, places_of
from bothtimes.store import Store
from bothtimes.story import known_lines


def merged(one, other):
    """Tell a new store with all deeds of one and, behind them, a deed of what other has changed, if anything."""
    if not isinstance(one, Store) or not isinstance(other, Store) or one.plan != other.plan:
        raise Unlike()
    base = known_lines(shared_deeds(one.told, other.told), None)
    changes = patch_between(base, other.lines)
    check_clash(changes_of(patch_between(base, one.lines)), changes_of(changes))
    both = Store(one.plan, most=max(one.most, other.most))
    both.tell_all(one.told)
    if changes:
        both.tell(max([day for day, steps in one.told + other.told]), steps_behind(changes))
    return both


def shared_deeds(one, other):
    """List the deeds of the longest beginning that both have alike."""
    shared = []
    for here, there in zip(one, other):
        if here != there:
            return shared
        shared.append(here)
    return shared


def check_clash(one, other):
    """Refuse changes by (table, key) of which some lead one place to unlike worths."""
    for place in places_of(one, other):
        table, key = place
        for low, high, here, there in beside(one.get(place, ()), other.get(place, ())):
            if here is not None and there is not None and here[1] != there[1]:
                raise Clash(table, key, low)
