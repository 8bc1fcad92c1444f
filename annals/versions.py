"""Annals: a shelf of versions, and branches that are at them."""

from annals.errors import BadBranch, BadLine, NoBranch
from annals.names import is_key
from annals.paths import need_files
from annals.shelf import Shelf
from annals.things import is_label, is_line
from annals.trees import files_of, put_files
from annals.walks import need_version_or_none, note_of, tree_of


def noted(shelf, files, parents, words):
    return shelf.put(("note", put_files(shelf, files), tuple(parents), words))


def files_at(store, version):
    return files_of(store, tree_of(store, version))


def files_or_none(store, version):
    return {} if version is None else files_at(store, version)


class Annals:

    def __init__(self):
        self.shelf = Shelf(None)
        self.heads = {}

    def stand_on(self, shelf):
        self.shelf = shelf

    def branches(self):
        return [(label, self.heads[label]) for label in sorted(self.heads)]

    def has_branch(self, branch):
        return is_key(self.heads, branch)

    def begin(self, branch, version):
        if not is_label(branch) or self.has_branch(branch):
            raise BadBranch("this is no label, or a branch already")
        need_version_or_none(self.shelf, version)
        self.heads[branch] = version

    def need_branch(self, branch):
        if not self.has_branch(branch):
            raise NoBranch("there is no such branch")

    def head(self, branch):
        self.need_branch(branch)
        return self.heads[branch]

    def set_head(self, branch, version):
        self.need_branch(branch)
        note_of(self.shelf, version)
        self.heads[branch] = version

    def keep(self, branch, files, words):
        head = self.head(branch)
        # All is looked at ahead of the first thing that is put: what is
        # refused leaves no names behind.
        need_files(files)
        if not is_line(words):
            raise BadLine("these words are no line")
        parents = [] if head is None else [head]
        version = noted(self.shelf, files, parents, words)
        self.set_head(branch, version)
        return version

    def files(self, version):
        return files_at(self.shelf, version)
