"""What is unlike in two trees, path by path, and rows of changes done to files."""

from annals.errors import NoFit
from annals.paths import need_files
from annals.trees import names_form, need_root, rows_of


def changes_of(store, one, other):
    need_root(store, one)
    need_root(store, other)
    rows = []
    opened = 0
    if one != other:
        opened = 2 + add_beneath(store, "", rows_of(store, one), rows_of(store, other), rows)
    return rows, opened


def add_beneath(store, ahead, ones, others, rows):
    opened = 0
    # The sign between labels stands ahead of all letters, so paths rise where
    # labels rise.
    for label in sorted(set(ones) | set(others)):
        before = ones.get(label)
        after = others.get(label)
        if before != after:
            opened += add_at(store, ahead + label, before, after, rows)
    return opened


def add_at(store, path, before, after, rows):
    trees = [name for name in (before, after) if names_form(store, name, "tree")]
    leaves = [None if name in trees else name for name in (before, after)]
    if leaves[0] != leaves[1]:
        rows.append((path, leaves[0], leaves[1]))
    beneath = [rows_of(store, name) if name in trees else {} for name in (before, after)]
    return len(trees) + add_beneath(store, path + "/", beneath[0], beneath[1], rows)


def rows_between(before, after):
    paths = sorted(set(before) | set(after))
    return [(path, before.get(path), after.get(path)) for path in paths if before.get(path) != after.get(path)]


def read_rows(store, rows):
    return [(path, lines_at(store, before), lines_at(store, after)) for path, before, after in rows]


def lines_at(store, name):
    return None if name is None else store.thing(name)[1]


def rows_turned(rows):
    return [(path, after, before) for path, before, after in rows]


def rows_done(files, rows):
    need_fit(files, rows)
    done = dict(files)
    for path, before, after in rows:
        if after is None:
            done.pop(path)
        else:
            done[path] = after
    need_files(done)
    return done


def need_fit(files, rows):
    paths = [row[0] for row in rows]
    if paths != sorted(set(paths)):
        raise NoFit("the paths don't rise, each once")
    for path, before, after in rows:
        if before == after:
            raise NoFit("before and after are alike")
        if before != files.get(path):
            raise NoFit("something else stands at a path")
