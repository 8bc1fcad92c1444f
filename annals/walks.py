"""Versions: their trees, parents and words, what lies before them, and where two of them meet."""

from annals.errors import NoVersion
from annals.reach import add_found, in_order
from annals.trees import names_form


def note_of(store, name):
    if not names_form(store, name, "note"):
        raise NoVersion("the store has no version of this name")
    return store.thing(name)


def need_version_or_none(store, name):
    if name is not None:
        note_of(store, name)


def tree_of(store, name):
    return note_of(store, name)[1]


def parents_of(store, name):
    return list(note_of(store, name)[2])


def first_parent(store, name):
    parents = parents_of(store, name)
    return parents[0] if len(parents) > 0 else None


def words_of(store, name):
    return note_of(store, name)[3]


def parents_in(note):
    return note[2]


def add_before(store, found, name):
    add_found(store, found, [name], parents_in)


def found_before(store, name):
    note_of(store, name)
    found = {}
    add_before(store, found, name)
    return found


def all_before(store, name):
    return in_order(store, found_before(store, name))


def is_before(store, one, other):
    note_of(store, one)
    return one in found_before(store, other)


def meeting_of(store, one, other):
    before_one = found_before(store, one)
    before_both = [version for version in all_before(store, other) if version in before_one]
    # With a version all that lies before it lies before both, too: so what
    # lies before another one of these is a parent of one of them.
    passed = {}
    for version in before_both:
        for parent in parents_of(store, version):
            passed[parent] = True
    return [version for version in before_both if version not in passed]
