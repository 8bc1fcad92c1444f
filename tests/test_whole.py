"""Promises A1 to A3 over the whole program, and the interface's names and arguments."""

import copy
import importlib
import inspect
import unittest

from samples import A, BOTH, HIGH, LOW, OTHER, SHAPES, begun, filled, state

from annals.changes import changes_of, read_rows, rows_done, rows_turned
from annals.desk import Desk
from annals.errors import AnnalsError
from annals.joins import clean_lines, groups_of, joined_lines, side_lines, turned_parts
from annals.lines import common_table, cost_of, kept_pairs, patched, spans_of
from annals.moves import base_of, carried, clashes_of, join_heads
from annals.packs import Pack
from annals.paths import labels_of, need_files
from annals.reach import reached
from annals.rows import carry_row, row_of
from annals.shelf import Shelf
from annals.sides import joined_files
from annals.things import names_in
from annals.told import told_changes, told_lines, told_log
from annals.trees import files_of, keep_files, with_file, without_file
from annals.versions import Annals, noted
from annals.walks import all_before, meeting_of, parents_of, tree_of

FUNCTIONS = {
    "things": ("is_line(thing)", "is_lines(thing)", "is_label(thing)", "need_thing(thing)", "spelled(thing)",
               "digest(thing)", "names_in(thing)"),
    "paths": ("is_path(thing)", "labels_of(path)", "path_over(one, other)", "need_files(files)"),
    "trees": ("keep_files(shelf, files)", "files_of(store, root)", "found_at(store, root, path)",
              "with_file(shelf, root, path, lines)", "without_file(shelf, root, path)"),
    "lines": ("common_table(old, new)", "kept_pairs(old, new)", "spans_of(old, new)", "patched(old, rows)",
              "cost_of(rows)"),
    "changes": ("changes_of(store, one, other)", "read_rows(store, rows)", "rows_turned(rows)",
                "rows_done(files, rows)"),
    "joins": ("near_spans(one, other)", "groups_of(ones, others)", "side_lines(base, low, high, rows)",
              "joined_lines(base, mine, yours)", "clean_lines(parts)", "turned_parts(parts)"),
    "sides": ("joined_files(base, mine, yours)",),
    "walks": ("tree_of(store, name)", "parents_of(store, name)", "words_of(store, name)", "all_before(store, name)",
              "is_before(store, one, other)", "meeting_of(store, one, other)"),
    "versions": ("noted(shelf, files, parents, words)",),
    "moves": ("base_of(store, one, other)", "clashes_of(store, one, other)", "join_heads(annals, branch, other)",
              "carried(annals, version, onto)"),
    "rows": ("row_of(store, low, high)", "carry_row(annals, branch, low, onto)"),
    "reach": ("reached(store, roots)",),
    "told": ("told_lines(lines)", "told_changes(rows)", "told_log(store, version)"),
}

CLASSES = {
    ("shelf", "Shelf(base)"): ("put(thing)", "has(name)", "thing(name)", "names()"),
    ("packs", "Pack(store, roots)"): ("has(name)", "thing(name)", "names()", "steps(name)", "weight()"),
    ("versions", "Annals()"): ("stand_on(shelf)", "branches()", "begin(branch, version)", "head(branch)",
                               "set_head(branch, version)", "keep(branch, files, words)", "files(version)"),
    ("desk", "Desk()"): ("answer(line)", "files()", "at_branch()"),
}

REFUSALS = """
    NoThing NoName BadPath BadFiles NoFit Clash NoVersion NoBranch BadBranch BadLine
""".split()


def called(value, name):
    """A function, a class or a method as the interface writes it."""
    names = [parameter for parameter in inspect.signature(value).parameters if parameter != "self"]
    return name + "(" + ", ".join(names) + ")"


def member(module, text):
    """What a module has under the name of such a text."""
    name = text.partition("(")[0]
    return getattr(importlib.import_module("annals." + module), name), name


class Interface(unittest.TestCase):

    def test_functions(self):
        for module, texts in FUNCTIONS.items():
            for text in texts:
                self.assertEqual(called(*member(module, text)), text)

    def test_classes(self):
        for (module, text), methods in CLASSES.items():
            value, name = member(module, text)
            self.assertIs(inspect.isclass(value), True)
            self.assertEqual(called(value, name), text)
            for method in methods:
                name = method.partition("(")[0]
                self.assertEqual(called(getattr(value, name), name), method)

    def test_fields(self):
        self.assertIs(Annals().shelf.__class__, Shelf)
        self.assertIs(Desk().annals.__class__, Annals)

    def test_refusals(self):
        self.assertEqual([error.__name__ for error in AnnalsError.__subclasses__()], REFUSALS)
        for error in AnnalsError.__subclasses__():
            self.assertEqual(error.__subclasses__(), [])


def spoil(value):
    """Lists and dicts, and those within, changed in their place."""
    inner = value.values() if isinstance(value, dict) else value
    if isinstance(value, (list, tuple, dict)):
        for part in list(inner):
            spoil(part)
    if isinstance(value, list):
        value.append("mine")
        value.reverse()
    if isinstance(value, dict):
        for key in list(value)[::2]:
            value.pop(key)
        value["mine"] = ("mine",)


FILES = {
    "a": {"f": A, "g": A, "d/e": A},
    "b": {"f": LOW, "g": A},
    "c": {"f": HIGH, "g": OTHER, "d/e": A + A},
    "d": {"f": BOTH, "h/i/j": ()},
}
SHAPE = SHAPES[3]


class Asked:
    """What is asked over the whole program, of a store and its versions: functions, and what is handed to them."""

    def __init__(self, store, names):
        self.store = store
        self.names = names

    def rows(self):
        trees = [tree_of(self.store, self.names[letter]) for letter in "bc"]
        return changes_of(self.store, *trees)[0]

    def asks(self):
        store = self.store
        names = self.names
        roots = [names["b"], names["c"]]
        tree = tree_of(store, names["c"])
        spans = spans_of(LOW, HIGH)
        parts = joined_lines(A, LOW, OTHER)
        return (
            (store.names, []), (names_in, [store.thing(names["d"])]), (names_in, [store.thing(tree)]),
            (labels_of, ["a/b"]), (need_files, [dict(FILES["a"])]), (files_of, [store, tree]),
            (common_table, [A, LOW]), (kept_pairs, [A, LOW]), (spans_of, [A, BOTH]), (patched, [LOW, spans]),
            (cost_of, [spans]), (changes_of, [store, tree, tree_of(store, names["b"])]),
            (read_rows, [store, self.rows()]), (rows_turned, [read_rows(store, self.rows())]),
            (rows_done, [dict(FILES["b"]), read_rows(store, self.rows())]),
            (groups_of, [spans_of(A, LOW), spans_of(A, BOTH)]), (side_lines, [A, 0, 3, spans_of(A, BOTH)]),
            (joined_lines, [A, LOW, HIGH]), (joined_lines, [A, LOW, OTHER]), (clean_lines, [parts]),
            (turned_parts, [parts]), (joined_files, [dict(FILES[letter]) for letter in "abc"]),
            (parents_of, [store, names["d"]]), (all_before, [store, names["d"]]), (meeting_of, [store, *roots]),
            (base_of, [store, *roots]), (clashes_of, [store, *roots]), (row_of, [store, None, names["d"]]),
            (reached, [store, roots]), (lambda *handed: Pack(*handed).names(), [store, roots]),
            (told_lines, [A]), (told_changes, [read_rows(store, self.rows())]), (told_log, [store, names["d"]]),
            (told_log, [store, None]),
        )


class Told(unittest.TestCase):
    """A2."""

    def stores(self):
        shelf, names = filled(SHAPE, FILES)
        return [(store, names) for store in (shelf, Shelf(shelf), Pack(shelf, shelf.names()),
                                             Shelf(Pack(shelf, [names["d"]])))]

    def need_same(self, ask, store):
        """Asked again it tells the same, whatever is done to what was told or handed in; and puts nothing."""
        function, kept = ask
        names = store.names()
        handed = [copy.deepcopy(part) if isinstance(part, (list, dict)) else part for part in kept]
        told = function(*handed)
        self.assertEqual(handed, kept)
        answer = copy.deepcopy(told)
        for part in handed:
            if isinstance(part, (list, dict)):
                spoil(part)
        self.assertEqual(told, answer, function)
        again = function(*kept)
        self.assertEqual(again, answer, function)
        spoil(told)
        self.assertEqual(again, answer, function)
        self.assertEqual(function(*kept), answer, function)
        self.assertEqual(store.names(), names)

    def test_what_is_told_and_handed_in(self):
        for store, names in self.stores():
            for ask in Asked(store, names).asks():
                self.need_same(ask, store)

    def test_what_was_told_stays(self):
        for store, names in self.stores():
            asks = Asked(store, names).asks()
            told = [function(*handed) for function, handed in asks]
            kept = copy.deepcopy(told)
            if isinstance(store, Shelf):
                version = noted(store, {"f": A + LOW, "z": ()}, [names["d"], names["a"]], "later")
                without_file(store, with_file(store, tree_of(store, version), "y", A), "f")
            Pack(store, store.names()).weight()
            self.assertEqual(told, kept)
            # The names alone are more by then.
            for ask, answer in zip(asks[1:], kept[1:]):
                self.assertEqual(ask[0](*ask[1]), answer, ask[0])

    def test_what_shelves_and_annals_are_handed(self):
        shelf = Shelf(None)
        files = dict(FILES["a"])
        parents = []
        first = noted(shelf, files, parents, "w")
        root = keep_files(shelf, files)
        kept = [(name, shelf.thing(name)) for name in shelf.names()]
        self.assertEqual((files, parents), (FILES["a"], []))
        spoil(files)
        spoil(parents)
        self.assertEqual([(name, shelf.thing(name)) for name in shelf.names()], kept)
        self.assertEqual(files_of(shelf, root), FILES["a"])
        annals = Annals()
        annals.begin("main", None)
        files = dict(FILES["a"])
        version = annals.keep("main", files, "w")
        spoil(files)
        self.assertEqual(annals.files(version), FILES["a"])
        self.assertEqual(version, first)

    def test_what_annals_tell(self):
        annals, names = begun(SHAPE, FILES, {"main": "b", "side": "d", "none": ""})
        kept = state(annals)
        branches = annals.branches()
        files = annals.files(names["c"])
        told = copy.deepcopy((branches, files))
        annals.keep("main", {}, "later")
        annals.begin("other", None)
        self.assertEqual((branches, files), told)
        spoil(branches)
        spoil(files)
        self.assertEqual(annals.files(names["c"]), FILES["c"])
        self.assertEqual(dict(annals.branches())["side"], dict(kept[0])["side"])
        row = carry_row(annals, "side", names["b"], names["b"])
        kept = state(annals)
        spoil(row)
        self.assertEqual(state(annals), kept)

    def test_what_is_refused_changes_nothing(self):
        annals, names = begun(SHAPE, FILES, {"main": "b", "side": "c", "none": ""})
        shelf = annals.shelf
        tree = tree_of(shelf, names["a"])
        kept = state(annals)
        for ask in (lambda: shelf.put(("leaf", ["a"])), lambda: shelf.put(("tree", (("a", names["a"]),))),
                    lambda: shelf.thing("x"), lambda: keep_files(shelf, {"x": ("new",), "x/y": ("new",)}),
                    lambda: with_file(shelf, tree, "f/x", ("new",)), lambda: with_file(shelf, tree, "d", ("new",)),
                    lambda: without_file(shelf, tree, "d"), lambda: annals.keep("main", {"x": ("new",)}, "w" * 21),
                    lambda: annals.keep("x", {"x": ("new",)}, "w"), lambda: annals.begin("main", None),
                    lambda: annals.set_head("none", tree), lambda: join_heads(annals, "main", "side"),
                    lambda: carried(annals, names["c"], names["b"]), lambda: row_of(shelf, names["c"], names["b"]),
                    lambda: carry_row(annals, "main", names["a"], names["c"]), lambda: reached(shelf, ["x"]),
                    lambda: Pack(shelf, [names["a"], None]), lambda: told_log(shelf, tree)):
            with self.assertRaises(AnnalsError):
                ask()
            self.assertEqual(state(annals), kept)


class Bounds(unittest.TestCase):
    """A3, where files are handed in."""

    def test_lines_and_paths(self):
        for path, lines, good in (("a", ("~" * 20,), True), ("a", ("~" * 21,), False), ("abcdefgh", (), True),
                                  ("abcdefghi", (), False), ("a/b/c/d", (" ",), True), ("a/b/c/d/e", (" ",), False),
                                  ("a/b/c/abcdefgh", ("",) * 200, True), ("a", ("\x7f",), False), ("", (), False)):
            shelf = Shelf(None)
            annals = Annals()
            annals.begin("main", None)
            desk = Desk()
            for ask in (lambda: need_files({path: lines}), lambda: keep_files(shelf, {path: lines}),
                        lambda: annals.keep("main", {path: lines}, "w"),
                        lambda: with_file(shelf, shelf.put(("tree", ())), path, lines)):
                if good:
                    ask()
                else:
                    with self.assertRaises(AnnalsError):
                        ask()
            told = desk.answer("put " + path + (" " if lines else "") + "|".join(lines))
            self.assertIs(told == [], good)
            self.assertEqual(desk.files(), {path: lines} if good else {})


if __name__ == "__main__":
    unittest.main()
