"""Promises C5 to C7, and annals.changes as the interface has it."""

import copy
import unittest

from samples import GOOD_FILES, NO_TEXTS, Base, families, nested, plain, told_opened, told_rows

from annals.changes import changes_of, read_rows, rows_done, rows_turned
from annals.errors import BadFiles, NoFit, NoName
from annals.shelf import Shelf
from annals.trees import files_of, keep_files

X = ("x",)
Y = ("y",)

FILES = {
    "a/a": X,
    "a/b/x": Y,
    "a/b/y": ("x", "y"),
    "ab": X,
    "b/c/d/e": Y,
    "c": (),
}


class Watched(Base):
    """A store that tells which things it was asked for."""

    def __init__(self, store):
        Base.__init__(self, [(name, store.thing(name)) for name in store.names()])
        self.asked = []

    def has(self, name):
        self.asked.append(name)
        return Base.has(self, name)

    def thing(self, name):
        self.asked.append(name)
        return Base.thing(self, name)


def pairs_of_files():
    known = families(("a", "a/a", "a/a/b", "a/b", "ab", "b/a/b"), (X, Y))
    pairs = [(one, known[(7 * place + 11 * step) % len(known)])
             for place, one in enumerate(known) for step in range(0, 60, 7)]
    return pairs + [(one, other) for one in GOOD_FILES + (FILES,) for other in GOOD_FILES + (FILES,)]


PAIRS = pairs_of_files()


def changed(files, changes):
    """The files with these lines at these paths, without a path where None is told."""
    whole = {**files, **changes}
    return {path: lines for path, lines in whole.items() if lines is not None}


class ChangeCase(unittest.TestCase):

    def setUp(self):
        self.shelf = Shelf(None)

    def leaf(self, lines):
        return None if lines is None else self.shelf.put(("leaf", lines))

    def between(self, one, other):
        return changes_of(self.shelf, keep_files(self.shelf, one), keep_files(self.shelf, other))

    def need_changes(self, one, other, rows, opened):
        """The rows, told with lines, and how many trees were opened."""
        told = self.between(one, other)
        self.assertIs(told.__class__, tuple)
        self.assertEqual(told, ([(path, self.leaf(old), self.leaf(new)) for path, old, new in rows], opened))

    def need_steps(self, changes, rows, opened):
        """The same between FILES and these with some changes, forth and back."""
        other = changed(FILES, changes)
        self.need_changes(FILES, other, rows, opened)
        self.need_changes(other, FILES, [(path, new, old) for path, old, new in rows], opened)


class Rows(ChangeCase):

    def test_a_file_more_and_a_file_less(self):
        self.need_steps({"d": X}, [("d", None, X)], 2)
        self.need_steps({"c": None}, [("c", (), None)], 2)
        self.need_steps({"a/b/z": X}, [("a/b/z", None, X)], 6)
        self.need_steps({"d/e/f/g": X}, [("d/e/f/g", None, X)], 5)
        self.need_steps({"b/c/d/e": None}, [("b/c/d/e", Y, None)], 5)

    def test_other_lines(self):
        self.need_steps({"ab": Y}, [("ab", X, Y)], 2)
        self.need_steps({"c": X}, [("c", (), X)], 2)
        self.need_steps({"ab": ()}, [("ab", X, ())], 2)
        self.need_steps({"a/b/y": ("y", "x")}, [("a/b/y", ("x", "y"), ("y", "x"))], 6)
        self.need_steps({"b/c/d/e": X}, [("b/c/d/e", Y, X)], 8)

    def test_a_file_that_became_a_folder(self):
        self.need_steps({"ab": None, "ab/c": X}, [("ab", X, None), ("ab/c", None, X)], 3)
        self.need_steps({"c": None, "c/d": X, "c/c/b/a": Y},
                        [("c", (), None), ("c/c/b/a", None, Y), ("c/d", None, X)], 5)

    def test_a_folder_that_became_a_file(self):
        self.need_steps({"a/b/x": None, "a/b/y": None, "a/b": Y},
                        [("a/b", None, Y), ("a/b/x", Y, None), ("a/b/y", ("x", "y"), None)], 5)
        self.need_steps({"b/c/d/e": None, "b": Y}, [("b", None, Y), ("b/c/d/e", Y, None)], 5)

    def test_a_folder_beneath_which_all_is_another(self):
        self.need_steps({"b/c/d/e": None, "b/d": X, "b/a/d": X},
                        [("b/a/d", None, X), ("b/c/d/e", Y, None), ("b/d", None, X)], 7)

    def test_rising_paths(self):
        files = {"ab": X, "a/b": X, "b": X, "a/a/c": X, "aa": X, "a/ab": X, "a/a/b": X}
        rising = ["a/a/b", "a/a/c", "a/ab", "a/b", "aa", "ab", "b"]
        self.need_changes({}, files, [(path, None, X) for path in rising], 4)
        self.need_changes(files, {}, [(path, X, None) for path in rising], 4)
        self.need_changes({"a": X}, files, [("a", X, None)] + [(path, None, X) for path in rising], 4)

    def test_no_files(self):
        self.need_changes({}, {}, [], 0)
        self.need_changes({}, {"a": ()}, [("a", None, ())], 2)
        self.need_changes({"a": ()}, {}, [("a", (), None)], 2)

    def test_leaves_told_by_their_names(self):
        one = keep_files(self.shelf, {"a": X})
        other = keep_files(self.shelf, {"a": Y})
        rows = changes_of(self.shelf, one, other)[0]
        self.assertEqual([[self.shelf.thing(name) for name in row[1:]] for row in rows], [[("leaf", X), ("leaf", Y)]])
        self.assertEqual([row.__class__ for row in rows], [tuple])

    def test_as_the_files_are_unlike(self):
        for one, other in PAIRS:
            self.need_changes(one, other, told_rows(one, other), told_opened(nested(one), nested(other)))


class Opened(ChangeCase):

    def test_the_same_root_twice(self):
        for files in GOOD_FILES + (FILES,):
            self.need_changes(files, dict(files), [], 0)

    def test_unlike_in_one_folder_of_several(self):
        files = {folder + "/x/y": X for folder in "abcdef"}
        self.need_changes(files, {**files, "c/x/y": Y}, [("c/x/y", X, Y)], 6)
        self.need_changes(files, {**files, "c/z": Y}, [("c/z", None, Y)], 4)
        self.need_changes(files, {**files, "g/x/y": X}, [("g/x/y", None, X)], 4)
        self.need_changes(files, {**files, "g": X}, [("g", None, X)], 2)

    def test_a_tree_in_several_places(self):
        inner = {"a/x/f": X, "b/x/f": X, "c/x/f": X}
        other = {"a/x/f": Y, "b/x/f": X, "c/x/f": Y}
        self.need_changes(inner, other, [("a/x/f", X, Y), ("c/x/f", X, Y)], 10)
        self.need_changes({}, inner, [(path, None, X) for path in inner], 8)
        self.need_changes(inner, {}, [(path, X, None) for path in inner], 8)
        # The same tree, moved: opened where it went and where it came from.
        self.need_changes({"a/x/f": X}, {"b/x/f": X}, [("a/x/f", X, None), ("b/x/f", None, X)], 6)

    def test_a_root_that_is_a_folder_of_the_other(self):
        self.need_changes({"a/f": X}, {"f": X}, [("a/f", X, None), ("f", None, X)], 3)
        self.need_changes({"a/a/f": X}, {"a/f": X}, [("a/a/f", X, None), ("a/f", None, X)], 5)

    def test_no_tree_is_looked_at_but_those(self):
        one = keep_files(self.shelf, FILES)
        other = keep_files(self.shelf, {**FILES, "a/b/x": X, "c": Y})
        store = Watched(self.shelf)
        self.assertEqual(changes_of(store, one, other)[1], 6)
        rows = dict(self.shelf.thing(one)[1])
        self.assertIn(rows["a"], store.asked)
        self.assertNotIn(rows["b"], store.asked)
        self.assertNotIn(dict(self.shelf.thing(rows["b"])[1])["c"], store.asked)

    def test_any_store_tells_the_same(self):
        one = keep_files(self.shelf, FILES)
        other = keep_files(self.shelf, {"a/b": X, "b/c/d/f": Y})
        told = changes_of(self.shelf, one, other)
        for store in (Shelf(self.shelf), plain(self.shelf), Shelf(plain(self.shelf))):
            self.assertEqual(changes_of(store, one, other), told)
            self.assertEqual(read_rows(store, told[0]), read_rows(self.shelf, told[0]))


class NoRoots(ChangeCase):

    def setUp(self):
        self.shelf = Shelf(None)
        self.root = keep_files(self.shelf, FILES)
        self.leaf_name = self.shelf.put(("leaf", X))
        self.note = self.shelf.put(("note", self.root, (), ""))
        self.wrong = NO_TEXTS + ("", "T0", "T0.99", "a", self.root + "0", self.leaf_name, self.note)

    def test_what_is_no_root(self):
        names = self.shelf.names()
        for wrong in self.wrong:
            for one, other in ((wrong, self.root), (self.root, wrong), (wrong, wrong)):
                with self.assertRaises(NoName) as caught:
                    changes_of(self.shelf, one, other)
                self.assertIs(caught.exception.__class__, NoName)
        self.assertEqual(self.shelf.names(), names)
        self.assertEqual(files_of(self.shelf, self.root), FILES)

    def test_of_the_first_one_first(self):
        store = Watched(self.shelf)
        with self.assertRaises(NoName):
            changes_of(store, "T0.99", self.note)
        self.assertEqual(store.asked[0], "T0.99")
        self.assertNotIn(self.note, store.asked)

    def test_ahead_of_all(self):
        store = Watched(self.shelf)
        with self.assertRaises(NoName):
            changes_of(store, self.root, self.note)
        self.assertEqual(set(store.asked), {self.root, self.note})

    def test_roots_of_another_shelf(self):
        with self.assertRaises(NoName):
            changes_of(Shelf(None), self.root, self.root)


class Read(ChangeCase):

    def test_names_become_lines(self):
        one = {"a": X, "b": (), "c/d": Y, "e": X}
        other = {"a": Y, "c": X, "d": (), "e": X}
        rows = self.between(one, other)[0]
        self.assertEqual(read_rows(self.shelf, rows), [
            ("a", X, Y), ("b", (), None), ("c", None, X), ("c/d", Y, None), ("d", None, ())])

    def test_rows_that_are_none(self):
        self.assertEqual(read_rows(self.shelf, []), [])
        self.assertEqual(rows_turned([]), [])

    def test_as_the_files_are_unlike(self):
        for one, other in PAIRS:
            rows = self.between(one, other)[0]
            self.assertEqual(read_rows(self.shelf, rows), told_rows(one, other))

    def test_turned(self):
        self.assertEqual(rows_turned([("a", X, None), ("b", None, ()), ("c", X, Y)]),
                         [("a", None, X), ("b", (), None), ("c", Y, X)])
        self.assertEqual(rows_turned([("a", "L1.0", None), ("b", None, "L2.0")]),
                         [("a", None, "L1.0"), ("b", "L2.0", None)])

    def test_turned_is_from_the_other_side(self):
        for one, other in PAIRS:
            there = self.between(one, other)
            back = self.between(other, one)
            self.assertEqual((rows_turned(there[0]), there[1]), back)
            self.assertEqual(rows_turned(rows_turned(there[0])), there[0])

    def test_lists_of_the_askers_own(self):
        one = keep_files(self.shelf, FILES)
        other = keep_files(self.shelf, {"a": X})
        told = changes_of(self.shelf, one, other)
        rows = copy.deepcopy(told[0])
        read = read_rows(self.shelf, rows)
        turned = rows_turned(rows)
        self.assertEqual(rows, told[0])
        told[0].clear()
        self.assertEqual(changes_of(self.shelf, one, other)[0], rows)
        kept = copy.deepcopy((read, turned))
        rows.clear()
        self.assertEqual((read, turned), kept)
        same = changes_of(self.shelf, one, one)
        same[0].append("mine")
        self.assertEqual(changes_of(self.shelf, one, one), ([], 0))


class Done(unittest.TestCase):

    def need_refused(self, error, files, rows):
        kept = copy.deepcopy((files, rows))
        with self.assertRaises(error) as caught:
            rows_done(files, rows)
        self.assertIs(caught.exception.__class__, error)
        self.assertEqual((files, rows), kept)

    def test_to_the_files_that_they_came_of(self):
        for one, other in PAIRS:
            self.assertEqual(rows_done(one, told_rows(one, other)), other)
            self.assertEqual(rows_done(other, rows_turned(told_rows(one, other))), one)

    def test_by_way_of_trees(self):
        shelf = Shelf(None)
        other = {"a": Y, "b/c": X, "c/d": ()}
        rows = changes_of(shelf, keep_files(shelf, FILES), keep_files(shelf, other))[0]
        self.assertEqual(rows_done(FILES, read_rows(shelf, rows)), other)
        self.assertEqual(rows_done(other, read_rows(shelf, rows_turned(rows))), FILES)

    def test_to_other_files(self):
        rows = [("a", X, Y), ("b", None, X), ("c", X, None)]
        self.assertEqual(rows_done({"a": X, "c": X, "d": ()}, rows), {"a": Y, "b": X, "d": ()})
        self.assertEqual(rows_done({"c": X, "e/f": Y, "a": X}, rows), {"a": Y, "b": X, "e/f": Y})

    def test_no_rows(self):
        self.assertEqual(rows_done({}, []), {})
        self.assertEqual(rows_done(FILES, []), FILES)

    def test_no_lines_are_lines(self):
        self.assertEqual(rows_done({}, [("a", None, ())]), {"a": ()})
        self.assertEqual(rows_done({"a": ()}, [("a", (), None)]), {})
        self.assertEqual(rows_done({"a": ()}, [("a", (), ("",))]), {"a": ("",)})

    def test_a_file_and_a_folder_in_its_place(self):
        self.assertEqual(rows_done({"a": X}, [("a", X, None), ("a/b", None, Y)]), {"a/b": Y})
        self.assertEqual(rows_done({"a/b": X, "a/c": Y}, [("a", None, ()), ("a/b", X, None), ("a/c", Y, None)]),
                         {"a": ()})

    def test_not_rising(self):
        self.need_refused(NoFit, {}, [("b", None, X), ("a", None, X)])
        self.need_refused(NoFit, {}, [("a", None, X), ("c", None, X), ("b", None, X)])
        self.need_refused(NoFit, {}, [("ab", None, X), ("a/b", None, X)])
        self.need_refused(NoFit, {"a": X}, [("a/b", None, X), ("a", X, None)])

    def test_a_path_twice(self):
        self.need_refused(NoFit, {"a": X}, [("a", X, Y), ("a", X, Y)])
        self.need_refused(NoFit, {"a": X}, [("a", X, Y), ("a", Y, X)])
        self.need_refused(NoFit, {"a": X}, [("a", X, None), ("a", None, X)])
        self.need_refused(NoFit, {}, [("a", None, X), ("b", None, X), ("b", None, Y), ("c", None, Y)])

    def test_before_and_after_alike(self):
        self.need_refused(NoFit, {"a": X}, [("a", X, X)])
        self.need_refused(NoFit, {"a": ()}, [("a", (), ())])
        self.need_refused(NoFit, {}, [("a", None, None)])
        self.need_refused(NoFit, {"a": X, "c": Y}, [("a", X, Y), ("b", None, None), ("c", Y, X)])

    def test_another_before(self):
        self.need_refused(NoFit, {"a": X}, [("a", Y, X)])
        self.need_refused(NoFit, {"a": X}, [("a", Y, None)])
        self.need_refused(NoFit, {"a": X}, [("a", None, Y)])
        self.need_refused(NoFit, {"a": ()}, [("a", None, Y)])
        self.need_refused(NoFit, {}, [("a", X, Y)])
        self.need_refused(NoFit, {}, [("a", (), Y)])
        self.need_refused(NoFit, {}, [("a", X, None)])
        self.need_refused(NoFit, {"a/b": X}, [("a", X, None)])
        self.need_refused(NoFit, {"a": X, "b": X}, [("a", X, Y), ("b", Y, X)])
        self.need_refused(NoFit, {"a": ("x", "y")}, [("a", ("y", "x"), None)])

    def test_what_comes_is_no_files(self):
        self.need_refused(BadFiles, {"a": X}, [("a/b", None, X)])
        self.need_refused(BadFiles, {"a/b/c/d": X}, [("a/b", None, X)])
        self.need_refused(BadFiles, {"a/b": X, "a/c": X}, [("a", None, X), ("a/b", X, None)])
        self.need_refused(BadFiles, {}, [("a", None, X), ("a/b", None, X)])
        self.need_refused(BadFiles, {"a": X}, [("a", X, Y), ("a/b", None, X)])

    def test_rows_that_do_not_fit_come_first(self):
        self.need_refused(NoFit, {"a": X}, [("a/b", None, X), ("c", X, None)])
        self.need_refused(NoFit, {"a": X}, [("a/b", None, X), ("a/c", None, None)])
        self.need_refused(NoFit, {"a": X}, [("a/c", None, X), ("a/b", None, X)])
        self.need_refused(NoFit, {}, [("a", None, X), ("a/b", X, Y)])

    def test_new_files(self):
        files = {"a": X, "b": Y}
        rows = [("b", Y, None)]
        done = rows_done(files, rows)
        self.assertEqual((files, rows), ({"a": X, "b": Y}, [("b", Y, None)]))
        files.clear()
        rows.clear()
        self.assertEqual(done, {"a": X})
        files = {"a": X}
        rows_done(files, [])["b"] = Y
        self.assertEqual(files, {"a": X})


if __name__ == "__main__":
    unittest.main()
