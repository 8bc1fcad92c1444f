"""Promise D6, and D1 to D5 held against a desk without names.

The same lines are given to a desk that packs ahead of each of them and to one that doesn't.
"""

import itertools
import re
import unittest

from samples import A, HIGH, LOW, Model, nested, state, told_opened, told_reached, told_rows, unfolded

from annals.desk import Desk
from annals.lines import spans_of
from annals.shelf import Shelf
from annals.versions import noted


def notes_of(shelf):
    return [name for name in shelf.names() if shelf.thing(name)[0] == "note"]


def changed_texts(rows):
    texts = []
    for path, before, after in rows:
        texts.append(("+ " if before is None else "- " if after is None else "* ") + path)
        if before is not None and after is not None:
            for low, high, lines in spans_of(before, after):
                texts.extend([f"  {low} {high}", *[f"  |{line}" for line in lines]])
    return texts


class DeskModel:
    """A desk by the words of D1 to D6, upon annals without names; to pack is to do nothing."""

    def __init__(self):
        self.annals = Model({"main": None})
        self.at = "main"
        self.files = {}

    def answer(self, line):
        word, blank, rest = line.partition(" ")
        if word in ("log", "changes", "pack") and not blank:
            return getattr(self, word)()
        if word in ("put", "cut", "show", "keep", "branch", "compare") and blank:
            return getattr(self, word)(rest)
        if word in ("go", "join", "carry") and blank:
            if rest not in self.annals.heads:
                return ["no such branch"]
            if self.files != self.kept_files(self.at):
                return ["keep first"]
            told = getattr(self, word)(rest)
            self.files = self.kept_files(self.at)
            return told
        return ["no such line"]

    def kept_files(self, label):
        head = self.annals.heads[label]
        return {} if head is None else dict(head[0])

    def number(self, version):
        return str(len([kept for kept in self.annals.kept if kept in self.annals.before(version)]))

    def put(self, rest):
        path, blank, text = rest.partition(" ")
        lines = tuple(text.split("|")) if blank else ()
        if not re.fullmatch("[a-z]{1,8}(/[a-z]{1,8}){0,3}", path):
            return ["bad path"]
        for other in self.files:
            if other.startswith(path + "/") or path.startswith(other + "/"):
                return ["bad files"]
        if not all(re.fullmatch("[ -~]{0,20}", line) for line in lines):
            return ["bad files"]
        self.files[path] = lines
        return []

    def cut(self, path):
        if path not in self.files:
            return ["no such file"]
        self.files.pop(path)
        return []

    def show(self, path):
        return ["|" + line for line in self.files[path]] if path in self.files else ["no such file"]

    def keep(self, words):
        if not re.fullmatch("[ -~]{0,20}", words):
            return ["bad words"]
        self.annals.keep(self.at, dict(self.files), words)
        return ["kept " + self.number(self.annals.heads[self.at])]

    def log(self):
        head = self.annals.heads[self.at]
        way = [] if head is None else self.annals.way(head)
        return [self.number(version) + " " + version[2] for version in way]

    def branch(self, label):
        if label in self.annals.heads or not re.fullmatch("[a-z]{1,8}", label):
            return ["bad branch"]
        self.annals.heads[label] = self.annals.heads[self.at]
        return []

    def go(self, label):
        self.at = label
        return []

    def join(self, label):
        told = self.annals.join(self.at, label)
        if told == "clash":
            clashes = self.annals.joined(self.annals.heads[self.at], self.annals.heads[label])[1]
            return ["clash " + clash[0] for clash in clashes]
        return ["joined " + self.number(self.annals.heads[self.at])] if told == "joined" else [told]

    def carry(self, label):
        mine = self.annals.heads[self.at]
        yours = self.annals.heads[label]
        if mine is None or yours is None:
            return ["nothing"]
        low = self.annals.meeting(mine, yours)
        way = self.annals.way(mine)
        told = self.annals.carry(self.at, label, low)
        if told == "carried":
            return ["carried " + str(len(way) if low is None else way.index(low))]
        return ["no row"] if told == "no fit" else [told]

    def changes(self):
        return changed_texts(told_rows(self.kept_files(self.at), self.files))

    def compare(self, label):
        if label not in self.annals.heads:
            return ["no such branch"]
        if None in (self.annals.heads[self.at], self.annals.heads[label]):
            return ["nothing"]
        mine = self.kept_files(self.at)
        yours = self.kept_files(label)
        return changed_texts(told_rows(mine, yours)) + ["opened " + str(told_opened(nested(mine), nested(yours)))]

    def pack(self):
        return []


class DeskPair(unittest.TestCase):

    def need_as_the_model(self, lines):
        """The model's answers, of a desk that never packs and of one that packs ahead of each line."""
        model = DeskModel()
        told = [model.answer(line) for line in lines]
        seldom = Desk()
        self.assertEqual([seldom.answer(line) for line in lines], told, lines)
        often = Desk()
        for line, answer in zip(lines, told):
            self.assertEqual(often.answer("pack"), [])
            self.assertEqual(often.answer(line), answer, lines)
        for desk in (seldom, often):
            self.assertEqual((desk.files(), desk.at_branch()), (model.files, model.at))
            versions = {name: unfolded(desk.annals.shelf, name) for name in notes_of(desk.annals.shelf)}
            self.assertEqual(list(versions.values()), model.annals.kept)
            self.assertEqual({label: versions.get(head) for label, head in desk.annals.branches()}, model.annals.heads)


FIRST = ("put f a|b|c", "put d/e/g a|b|c|d", "keep w", "branch side")

STEPS = (
    ("go main", "put f x|b|c", "keep v"),
    ("go main", "put f z|b|c", "cut d/e/g", "keep v"),
    ("go side", "put f a|b|y", "keep u"),
    ("go side", "put d/e/g a|b|x|d", "put h q", "keep v"),
    ("go main", "join side"),
    ("go side", "join main"),
    ("go main", "carry side"),
    ("go side", "carry main"),
)

ASKED = ("log", "changes", "compare main", "compare side")


class AsTheModel(DeskPair):

    def test_rows_of_steps(self):
        for count in range(4):
            for steps in itertools.product(STEPS, repeat=count):
                self.need_as_the_model([*FIRST, *itertools.chain(*[(*step, *ASKED) for step in steps])])

    def test_longer_rows_of_steps(self):
        # Branches that part and are joined across, again and again.
        for ahead in itertools.product((STEPS[0], STEPS[3]), (STEPS[2], STEPS[3])):
            for steps in itertools.product(STEPS[4:], repeat=3):
                chosen = [*ahead, *steps, STEPS[0], STEPS[2], *steps]
                self.need_as_the_model([*FIRST, *itertools.chain(*[(*step, *ASKED[::3]) for step in chosen])])

    def test_from_nothing(self):
        lines = ("put f a|b", "put g/h", "cut f", "keep w", "branch side", "go side", "go main", "join side",
                 "carry side", "changes")
        for chosen in itertools.product(lines, repeat=3):
            self.need_as_the_model([*chosen, "log", "compare side", "show f"])

    def test_branches_that_meet_nowhere(self):
        for steps in itertools.product(STEPS, repeat=2):
            self.need_as_the_model(["branch side", "put f a|b|c", "keep w", "go side", "put g a", "keep w",
                                    *itertools.chain(*[(*step, *ASKED) for step in steps])])

    def test_meeting_at_two_places(self):
        # Joined across, in either order, from either side.
        for one, other in (("main", "side"), ("side", "main")):
            for word in ("join", "carry"):
                for at, to in (("main", "side"), ("side", "main")):
                    self.need_as_the_model([*FIRST, "go " + one, "put o " + one, "keep v", "go " + other,
                                            "put n " + other, "keep v", "branch copy", "join " + one, "go " + one,
                                            "join copy", "go " + at, word + " " + to, "log", "compare " + to])

    def test_refused_lines(self):
        self.need_as_the_model([*FIRST, "put d x", "put f/g x", "put F x", "put g " + "x" * 21, "cut d", "show d",
                                "log ", "keep", "keep " + "x" * 21, "branch main", "branch Main", "go x", "put f q",
                                "go side", "join side", "carry side", "join x", "compare x", "changes", "show f",
                                "pack ", "x"])


class Pack(unittest.TestCase):

    def setUp(self):
        self.desk = Desk()

    def give(self, *lines):
        return [self.desk.answer(line) for line in lines][-1]

    def need_packed(self):
        """Packing leaves just what the versions lead to, by the same names."""
        old = self.desk.annals.shelf
        kept = state(self.desk.annals)
        files = self.desk.files()
        versions = notes_of(old)
        self.assertEqual(self.give("pack"), [])
        new = self.desk.annals.shelf
        self.assertIsNot(new, old)
        self.assertIs(new.__class__, Shelf)
        self.assertEqual(new.names(), told_reached(old, versions))
        self.assertEqual(notes_of(new), versions)
        for name in new.names():
            self.assertEqual(new.thing(name), old.thing(name))
        self.assertEqual((self.desk.annals.branches(), self.desk.files()), (kept[0], files))
        # What it stood on is as it was, and stays so.
        self.assertEqual([(name, old.thing(name)) for name in old.names()], kept[1])
        self.give("put zz packed", "keep packed", "cut zz", "keep packed")
        self.assertEqual([(name, old.thing(name)) for name in old.names()], kept[1])

    def test_nothing_kept(self):
        self.need_packed()
        self.setUp()
        self.give("put f a")
        self.need_packed()

    def test_some_versions(self):
        self.give(*FIRST, *STEPS[0], *STEPS[3], *STEPS[4])
        self.need_packed()
        self.need_packed()

    def test_leaves_that_no_version_leads_to(self):
        self.give(*FIRST)
        leaf = self.desk.annals.shelf.put(("leaf", ("nobody's",)))
        tree = self.desk.annals.shelf.put(("tree", (("a", leaf),)))
        self.need_packed()
        self.assertIs(self.desk.annals.shelf.has(leaf), False)
        self.assertIs(self.desk.annals.shelf.has(tree), False)

    def test_a_name_that_is_free_again(self):
        # The leaf that goes has the digest of the one that comes.
        desks = [Desk(), Desk()]
        for desk in desks:
            self.desk = desk
            self.give("put f am", "keep w")
            self.assertEqual(self.desk.annals.shelf.put(("leaf", ("a",))), "L38.1")
        desks[0].answer("pack")
        for desk in desks:
            self.desk = desk
            self.give("branch side", "put f dq", "keep v")
            self.assertEqual(self.give("compare side"), ["* f", "  0 1", "  |am", "opened 2"])
            self.assertEqual(self.give("log"), ["2 v", "1 w"])
        self.assertEqual([desk.annals.shelf.put(("leaf", ("dq",))) for desk in desks], ["L38.1", "L38.2"])

    def test_versions_that_no_branch_is_at(self):
        self.give("put f a|b|c", "keep w")
        first = self.desk.annals.head("main")
        self.give("put f x|b|c", "keep lost")
        lost = self.desk.annals.head("main")
        self.desk.annals.set_head("main", first)
        self.need_packed()
        self.assertEqual(self.desk.annals.files(lost), {"f": LOW})
        # It can be come to again: by a branch, and by keeping the same.
        self.desk.annals.begin("old", lost)
        self.desk.annals.set_head("main", first)
        names = self.desk.annals.shelf.names()
        self.assertEqual(self.give("put f x|b|c", "keep lost"), ["kept 2"])
        self.assertEqual(self.desk.annals.head("main"), lost)
        self.assertEqual(self.desk.annals.shelf.names(), names)
        self.assertEqual(self.give("join old"), ["nothing"])

    def test_versions_that_a_clash_left(self):
        lines = ("put f a|b|c", "keep w", "branch side", "put f x|b|c", "keep v", "go side", "put g q", "keep u",
                 "put f z|b|c", "keep t", "carry main")
        desks = [Desk(), Desk()]
        for desk in desks:
            self.assertEqual([desk.answer(line) for line in lines][-1], ["clash"])
        desks[0].answer("pack")
        self.assertEqual(desks[0].annals.shelf.names(), desks[1].annals.shelf.names())
        left = notes_of(desks[0].annals.shelf)[-1]
        self.assertNotIn(left, [head for label, head in desks[0].annals.branches()])
        for desk in desks:
            self.assertEqual(desk.annals.files(left), {"f": LOW, "g": ("q",)})
            self.assertEqual(desk.answer("carry main"), ["clash"])
        self.assertEqual(desks[0].annals.shelf.names(), desks[1].annals.shelf.names())

    def test_versions_that_were_put_by_themselves(self):
        self.give(*FIRST)
        one = noted(self.desk.annals.shelf, {"f": HIGH}, [], "theirs")
        self.need_packed()
        self.desk.annals.begin("theirs", one)
        self.assertEqual(self.give("keep w", "go theirs", "log"), ["1 theirs"])
        self.assertEqual(self.desk.files(), {"f": HIGH})

    def test_the_stores_order(self):
        # Two first versions, kept in an order that their names don't have.
        for words in itertools.permutations("abcd", 2):
            desk = Desk()
            desk.annals.begin("side", None)
            for label, word in zip(("main", "side"), words):
                desk.annals.keep(label, {"f": A}, word)
            names = desk.annals.shelf.names()
            desk.answer("pack")
            desk.answer("pack")
            self.assertEqual(desk.annals.shelf.names(), names)

    def test_working_files_that_are_not_kept(self):
        self.give(*FIRST, "put f q", "put new n")
        self.need_packed()
        self.setUp()
        self.give(*FIRST, "put f q", "put new n", "pack")
        self.assertEqual(self.give("changes"), ["* f", "  0 3", "  |q", "+ new"])
        self.assertEqual(self.give("go side"), ["keep first"])

    def test_many_versions_packed_again_and_again(self):
        seldom = Desk()
        lines = ["line " + str(number) for number in range(30)]
        for number in range(60):
            lines[number * 7 % 30] = "new " + str(number)
            step = ["put f " + "|".join(lines), "keep " + str(number), "changes"]
            for line in step:
                self.assertEqual(self.desk.answer(line), seldom.answer(line))
            self.desk.answer("pack")
        self.assertEqual(self.desk.answer("log"), seldom.answer("log"))
        self.assertEqual(state(self.desk.annals), state(seldom.annals))


if __name__ == "__main__":
    unittest.main()
