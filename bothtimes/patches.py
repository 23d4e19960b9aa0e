"""Patches: what is otherwise on one known day than on another one, as (table, key, low, high, ahead, behind)."""

from bothtimes.errors import NoFit
from bothtimes.lines import beside, joined
from bothtimes.story import known_lines


def patch(deeds, *, early=None, late=None):
    """Tell what is known on late, or by all deeds, otherwise than on early, or than nothing."""
    ahead = {} if early is None else known_lines(deeds, early)
    return patch_between(ahead, known_lines(deeds, late))


def patch_between(ahead, behind):
    """Tell the patch from lines by (table, key) to others."""
    pieces = []
    for place in places_of(ahead, behind):
        for low, high, here, there in beside(ahead.get(place, ()), behind.get(place, ())):
            if here != there:
                pieces.append((place[0], place[1], low, high, here, there))
    return tuple(pieces)


def places_of(one, other):
    """List the places (table, key), rising, of which one dict or the other has something."""
    return sorted(set(list(one) + list(other)))


def followed(one, other):
    """Tell one patch for both, one behind the other; NoFit where other does not go on from where one leads."""
    first = changes_of(one)
    second = changes_of(other)
    pieces = []
    for place in places_of(first, second):
        table, key = place
        both = beside(first.get(place, ()), second.get(place, ()))
        for low, high, (ahead, behind) in joined(changes_through(table, key, both)):
            pieces.append((table, key, low, high, ahead, behind))
    return tuple(pieces)


def changes_of(pieces):
    """Tell, by (table, key), the line of changes (ahead, behind) of a patch."""
    changes = {}
    for table, key, low, high, ahead, behind in pieces:
        changes.setdefault((table, key), []).append((low, high, (ahead, behind)))
    return {place: tuple(changes[place]) for place in changes}


def changes_through(table, key, both):
    """List (low, high, change) of the changes that two changes, of which one may be None, come to."""
    changes = []
    for low, high, here, there in both:
        if here is None:
            changes.append((low, high, there))
        elif there is None:
            changes.append((low, high, here))
        elif here[1] != there[0]:
            raise NoFit(table, key, low)
        elif here[0] != there[1]:
            changes.append((low, high, (here[0], there[1])))
    return changes


def undone(one):
    """Tell the patch with ahead and behind exchanged."""
    return tuple([(table, key, low, high, behind, ahead) for table, key, low, high, ahead, behind in one])
