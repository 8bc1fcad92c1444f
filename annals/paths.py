"""Paths, and files by their paths."""

from annals.errors import BadFiles, BadPath
from annals.things import is_label, is_lines

MOST_LABELS = 4


def is_path(thing):
    if not isinstance(thing, str):
        return False
    labels = thing.split("/")
    return len(labels) <= MOST_LABELS and all([is_label(label) for label in labels])


def labels_of(path):
    if not is_path(path):
        raise BadPath("this is no path")
    return path.split("/")


def path_over(one, other):
    return other.startswith(one + "/")


def folders_of(path):
    labels = path.split("/")
    return ["/".join(labels[:count]) for count in range(1, len(labels))]


def is_file(path, lines):
    return is_path(path) and is_lines(lines)


def need_files(files):
    if not isinstance(files, dict):
        raise BadFiles("these are no files")
    for path, lines in files.items():
        if not is_file(path, lines):
            raise BadFiles("no path, or no lines at a path")
    # A path's folders are few, so they are looked up: no need to hold each
    # path against each other one.
    for path in files:
        if any([folder in files for folder in folders_of(path)]):
            raise BadFiles("a path is the folder of another one")
