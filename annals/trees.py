"""Files kept as trees on a shelf, and trees with a file more or less."""

from annals.errors import BadFiles, NoFit, NoName
from annals.paths import folders_of, labels_of, need_files
from annals.things import is_lines


def names_form(store, name, form):
    return store.has(name) and store.thing(name)[0] == form


def need_root(store, root):
    if not names_form(store, root, "tree"):
        raise NoName("the store has no tree of this name")


def rows_of(store, tree):
    return dict(store.thing(tree)[1])


def put_rows(shelf, rows):
    return shelf.put(("tree", tuple(sorted(rows.items()))))


def keep_files(shelf, files):
    # All is looked at ahead of the first thing that is put: what is refused
    # leaves no names behind.
    need_files(files)
    return put_files(shelf, files)


def put_files(shelf, files):
    rows = {}
    folders = {}
    for path, lines in files.items():
        parts = path.partition("/")
        label = parts[0]
        if label == path:
            rows[label] = shelf.put(("leaf", lines))
        else:
            beneath = folders.get(label, {})
            beneath[parts[2]] = lines
            folders[label] = beneath
    for label, beneath in folders.items():
        rows[label] = put_files(shelf, beneath)
    return put_rows(shelf, rows)


def files_of(store, root):
    need_root(store, root)
    return files_beneath(store, root, "")


def files_beneath(store, tree, ahead):
    # The sign between labels stands ahead of all letters, so paths rise where
    # labels rise.
    files = {}
    for label, name in store.thing(tree)[1]:
        thing = store.thing(name)
        if thing[0] == "leaf":
            files[ahead + label] = thing[1]
        else:
            files.update(files_beneath(store, name, ahead + label + "/"))
    return files


def found_at(store, root, path):
    need_root(store, root)
    name = root
    for label in labels_of(path):
        if not names_form(store, name, "tree"):
            return None
        name = rows_of(store, name).get(label)
    return name


def need_free(shelf, root, path):
    for folder in folders_of(path):
        if names_form(shelf, found_at(shelf, root, folder), "leaf"):
            raise BadFiles("a file stands at a folder of the path")
    if names_form(shelf, found_at(shelf, root, path), "tree"):
        raise BadFiles("a folder stands at the path")


def rows_with(shelf, rows, labels, leaf):
    label = labels[0]
    name = leaf
    if len(labels) > 1:
        beneath = rows_of(shelf, rows[label]) if label in rows else {}
        name = put_rows(shelf, rows_with(shelf, beneath, labels[1:], leaf))
    changed = dict(rows)
    changed[label] = name
    return changed


def rows_without(shelf, rows, labels):
    label = labels[0]
    changed = dict(rows)
    beneath = {}
    if len(labels) > 1:
        beneath = rows_without(shelf, rows_of(shelf, rows[label]), labels[1:])
    # A folder without files is none: its tree is not even put.
    if len(beneath) > 0:
        changed[label] = put_rows(shelf, beneath)
    else:
        changed.pop(label)
    return changed


def with_file(shelf, root, path, lines):
    need_root(shelf, root)
    labels = labels_of(path)
    if not is_lines(lines):
        raise BadFiles("these are no lines")
    need_free(shelf, root, path)
    leaf = shelf.put(("leaf", lines))
    return put_rows(shelf, rows_with(shelf, rows_of(shelf, root), labels, leaf))


def without_file(shelf, root, path):
    if not names_form(shelf, found_at(shelf, root, path), "leaf"):
        raise NoFit("no file stands at the path")
    return put_rows(shelf, rows_without(shelf, rows_of(shelf, root), labels_of(path)))
