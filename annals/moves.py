"""Changes that move: two branches joined, a version carried onto another one."""

from annals.errors import Clash
from annals.sides import joined_files
from annals.versions import files_at, files_or_none, noted
from annals.walks import first_parent, is_before, meeting_of, words_of


def first_meeting(store, one, other):
    meeting = meeting_of(store, one, other)
    return meeting[0] if len(meeting) > 0 else None


def base_of(store, one, other):
    return files_or_none(store, first_meeting(store, one, other))


def joined_by_base(store, one, other):
    return joined_files(base_of(store, one, other), files_at(store, one), files_at(store, other))


def clashes_of(store, one, other):
    return joined_by_base(store, one, other)[1]


def need_clean(joined):
    if len(joined[1]) > 0:
        raise Clash("some paths clash")
    return joined[0]


def has_all_of(store, head, other):
    # A branch at nothing has nothing that another one could lack.
    return other is None or (head is not None and is_before(store, other, head))


def join_heads(annals, branch, other):
    mine = annals.head(branch)
    yours = annals.head(other)
    if has_all_of(annals.shelf, mine, yours):
        return "nothing"
    if has_all_of(annals.shelf, yours, mine):
        annals.set_head(branch, yours)
        return "moved"
    files = need_clean(joined_by_base(annals.shelf, mine, yours))
    annals.set_head(branch, noted(annals.shelf, files, [mine, yours], "join"))
    return "joined"


def carried(annals, version, onto):
    shelf = annals.shelf
    yours = files_at(shelf, version)
    base = files_or_none(shelf, first_parent(shelf, version))
    mine = files_at(shelf, onto)
    # What is joined has its paths rising, and is kept in this order.
    files = need_clean(joined_files(base, mine, yours))
    if files == mine:
        return onto
    return noted(shelf, files, [onto], words_of(shelf, version))
