"""The desk: working files at a branch of annals, and the lines that are given to it."""

from annals.changes import changes_of, read_rows, rows_between
from annals.errors import BadBranch, BadFiles, BadLine, BadPath, Clash, NoBranch, NoFit
from annals.moves import clashes_of, first_meeting, join_heads
from annals.packs import Pack
from annals.paths import labels_of
from annals.rows import carry_row
from annals.shelf import Shelf
from annals.sides import in_the_way
from annals.things import is_lines
from annals.told import told_changes, told_lines, told_log
from annals.trees import names_form
from annals.versions import Annals, files_or_none
from annals.walks import found_before, tree_of

FIRST_BRANCH = "main"


class Desk:

    def __init__(self):
        self.annals = Annals()
        self.annals.begin(FIRST_BRANCH, None)
        self.label = FIRST_BRANCH
        self.working = {}

    def files(self):
        return dict(self.working)

    def at_branch(self):
        return self.label

    def head(self):
        return self.annals.head(self.label)

    def branch_files(self):
        return files_or_none(self.annals.shelf, self.head())

    def answer(self, line):
        parts = line.partition(" ")
        try:
            if parts[1] == "":
                return self.answer_word(parts[0])
            return self.answer_rest(parts[0], parts[2])
        except BadPath:
            return ["bad path"]
        except BadFiles:
            return ["bad files"]
        except NoFit:
            return ["no such file"]
        except BadLine:
            return ["bad words"]
        except BadBranch:
            return ["bad branch"]
        except NoBranch:
            return ["no such branch"]

    def answer_word(self, word):
        if word == "log":
            return told_log(self.annals.shelf, self.head())
        if word == "changes":
            return told_changes(rows_between(self.branch_files(), self.working))
        if word == "pack":
            return self.pack()
        return ["no such line"]

    def answer_rest(self, word, rest):
        if word == "put":
            return self.put_file(rest)
        if word == "cut":
            return self.cut_file(rest)
        if word == "show":
            return told_lines(self.lines_of(rest))
        if word == "keep":
            return self.keep_files(rest)
        if word == "branch":
            return self.begin_branch(rest)
        if word in ("go", "join", "carry"):
            return self.move(word, rest)
        if word == "compare":
            return self.compare_with(rest)
        return ["no such line"]

    def put_file(self, rest):
        parts = rest.partition(" ")
        path = parts[0]
        # Without a blank behind the path there is no text; an empty text is
        # one empty line.
        lines = () if parts[1] == "" else tuple(parts[2].split("|"))
        labels_of(path)
        changed = dict(self.working)
        changed[path] = lines
        if not is_lines(lines) or path in in_the_way(changed):
            raise BadFiles("no lines, or something is in the way")
        self.working = changed
        return []

    def lines_of(self, path):
        labels_of(path)
        if path not in self.working:
            raise NoFit("no file stands at the path")
        return self.working[path]

    def cut_file(self, path):
        self.lines_of(path)
        self.working.pop(path)
        return []

    def keep_files(self, words):
        self.annals.keep(self.label, self.working, words)
        return self.numbered("kept")

    def numbered(self, word):
        number = len(found_before(self.annals.shelf, self.head()))
        return [f"{word} {number}"]

    def begin_branch(self, label):
        self.annals.begin(label, self.head())
        return []

    def move(self, word, label):
        self.annals.need_branch(label)
        if self.working != self.branch_files():
            return ["keep first"]
        told = []
        if word == "go":
            self.label = label
        elif word == "join":
            told = self.join_with(label)
        else:
            told = self.carry_onto(label)
        # Also where the branch stayed: they are the branch's by what was
        # looked at above.
        self.working = self.branch_files()
        return told

    def join_with(self, label):
        try:
            outcome = join_heads(self.annals, self.label, label)
        except Clash:
            clashes = clashes_of(self.annals.shelf, self.head(), self.annals.head(label))
            return ["clash " + clash[0] for clash in clashes]
        return self.numbered(outcome) if outcome == "joined" else [outcome]

    def is_at_nothing(self, label):
        # The other branch first: one that is none is refused wherever the
        # desk's own is.
        return self.annals.head(label) is None or self.head() is None

    def carry_onto(self, label):
        if self.is_at_nothing(label):
            return ["nothing"]
        onto = self.annals.head(label)
        low = first_meeting(self.annals.shelf, self.head(), onto)
        try:
            count = len(carry_row(self.annals, self.label, low, onto))
        except NoFit:
            return ["no row"]
        except Clash:
            return ["clash"]
        return [f"carried {count}"]

    def compare_with(self, label):
        if self.is_at_nothing(label):
            return ["nothing"]
        shelf = self.annals.shelf
        unlike = changes_of(shelf, tree_of(shelf, self.head()), tree_of(shelf, self.annals.head(label)))
        opened = unlike[1]
        return told_changes(read_rows(shelf, unlike[0])) + [f"opened {opened}"]

    def pack(self):
        shelf = self.annals.shelf
        # All notes, since a version that no branch is at any more may still be
        # come to, or be kept once more.
        versions = [name for name in shelf.names() if names_form(shelf, name, "note")]
        self.annals.stand_on(Shelf(Pack(shelf, versions)))
        return []
