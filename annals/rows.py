"""Rows of versions along first parents, and a branch's row carried elsewhere."""

from annals.errors import NoFit
from annals.moves import carried
from annals.walks import first_parent, need_version_or_none, note_of


def row_of(store, low, high):
    need_version_or_none(store, low)
    note_of(store, high)
    passed = []
    version = high
    while version is not None and version != low:
        passed.append(version)
        version = first_parent(store, version)
    if version != low:
        raise NoFit("the low version is not on the way")
    return list(reversed(passed))


def carry_row(annals, branch, low, onto):
    head = annals.head(branch)
    need_version_or_none(annals.shelf, low)
    note_of(annals.shelf, onto)
    if head is None:
        raise NoFit("the branch is at nothing")
    came = []
    last = onto
    for version in row_of(annals.shelf, low, head):
        last = carried(annals, version, last)
        came.append(last)
    annals.set_head(branch, last)
    return came
