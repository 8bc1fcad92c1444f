"""Promises F3 to F5, and annals.trees as the interface has it."""

import copy
import itertools
import unittest

from samples import BAD_FILES, BAD_PATHS, GOOD_FILES, NO_TEXTS, led_to, nested, plain, read

from annals.errors import BadFiles, BadPath, NoFit, NoName
from annals.shelf import Shelf
from annals.trees import files_of, found_at, keep_files, with_file, without_file

FILES = {
    "c": ("see", ""),
    "a/b/y": ("x",),
    "a/a": ("x",),
    "a/b/x/w": (),
    "ab": ("x", "y"),
    "d/e/f/g": ("deep",),
    "a/bc": ("see", ""),
}

EMPTY_TREE = ("tree", ())


def on_the_way(store, root, path):
    """The names of the trees from the root down to the path, as far as there are any."""
    found = {root}
    name = root
    for label in path.split("/"):
        name = dict(store.thing(name)[1]).get(label)
        if name is None or store.thing(name)[0] == "leaf":
            break
        found.add(name)
    return found


def cluttered():
    """A shelf with things of each form that no files here are kept by."""
    shelf = Shelf(None)
    leaf = shelf.put(("leaf", ("other",)))
    tree = shelf.put(("tree", (("other", leaf),)))
    note = shelf.put(("note", tree, (), "other"))
    shelf.put(("note", tree, (note,), "other"))
    return shelf


class TreeCase(unittest.TestCase):

    def need_names(self, shelf, before, more):
        """The shelf has the names that it had, in their order, and these, and no other ones."""
        self.assertEqual(shelf.names()[:len(before)], before)
        self.assertEqual(set(shelf.names()), set(before) | more)

    def need_as_kept(self, shelf, root, files):
        """The root reads as these files, and is the one that they are kept by."""
        names = shelf.names()
        self.assertEqual(files_of(shelf, root), files)
        self.assertEqual(read(shelf, root), nested(files))
        self.assertEqual(keep_files(shelf, files), root)
        self.assertEqual(shelf.names(), names)


class KeptFiles(TreeCase):

    def test_no_files_are_the_tree_without_rows(self):
        shelf = Shelf(None)
        self.assertEqual(keep_files(shelf, {}), "T84.0")
        self.assertEqual(shelf.thing("T84.0"), EMPTY_TREE)
        self.assertEqual(shelf.names(), ["T84.0"])

    def test_a_file_at_the_top(self):
        shelf = Shelf(None)
        root = keep_files(shelf, {"a": ("a",)})
        self.assertEqual(shelf.thing(root), ("tree", (("a", "L38.0"),)))
        self.assertEqual(shelf.thing("L38.0"), ("leaf", ("a",)))
        self.assertEqual(sorted(shelf.names()), sorted([root, "L38.0"]))

    def test_a_file_in_folders(self):
        shelf = Shelf(None)
        root = keep_files(shelf, {"d/c/b/a": ()})
        third = shelf.put(("tree", (("a", "L76.0"),)))
        second = shelf.put(("tree", (("b", third),)))
        first = shelf.put(("tree", (("c", second),)))
        self.assertEqual(shelf.thing(root), ("tree", (("d", first),)))
        self.assertEqual(sorted(shelf.names()), sorted(["L76.0", third, second, first, root]))

    def test_rows_by_rising_labels_with_leaves_and_trees(self):
        shelf = Shelf(None)
        root = keep_files(shelf, {"c": ("x",), "ab": ("x",), "b/x": ("x",), "a/x": ("x",)})
        leaf = shelf.put(("leaf", ("x",)))
        tree = shelf.put(("tree", (("x", leaf),)))
        self.assertEqual(shelf.thing(root), ("tree", (("a", tree), ("ab", leaf), ("b", tree), ("c", leaf))))
        self.assertEqual(sorted(shelf.names()), sorted([leaf, tree, root]))

    def test_read_by_the_things_of_the_shelf(self):
        for files in GOOD_FILES + (FILES,):
            with self.subTest(files):
                shelf = Shelf(None)
                self.assertEqual(read(shelf, keep_files(shelf, files)), nested(files))

    def test_nothing_is_put_but_the_trees_and_leaves(self):
        for files in GOOD_FILES + (FILES,):
            for shelf in (Shelf(None), cluttered(), Shelf(cluttered())):
                with self.subTest(files):
                    before = shelf.names()
                    root = keep_files(shelf, files)
                    self.need_names(shelf, before, led_to(shelf, root))

    def test_no_tree_without_rows_but_the_root_of_no_files(self):
        for files in GOOD_FILES + (FILES,):
            with self.subTest(files):
                shelf = Shelf(None)
                keep_files(shelf, files)
                things = [shelf.thing(name) for name in shelf.names()]
                self.assertEqual(EMPTY_TREE in things, files == {})

    def test_the_same_root_in_another_order(self):
        files = {"b": ("x",), "a/b": ("y",), "a/a/c": ("z",), "ab": ()}
        shelf = Shelf(None)
        root = keep_files(shelf, files)
        before = shelf.names()
        for order in itertools.permutations(files.items()):
            with self.subTest(order):
                self.assertEqual(keep_files(shelf, dict(order)), root)
                self.assertEqual(shelf.names(), before)

    def test_other_files_are_another_root(self):
        shelf = Shelf(None)
        roots = [keep_files(shelf, files) for files in GOOD_FILES]
        self.assertEqual(len(set(roots)), len(GOOD_FILES))
        self.assertEqual([files_of(shelf, root) for root in roots], list(GOOD_FILES))

    def test_the_order_of_names_hangs_on_the_files_alone(self):
        for files in GOOD_FILES + (FILES,):
            for order in (list(files), sorted(files), sorted(files, reverse=True)):
                with self.subTest(order):
                    one = Shelf(None)
                    other = Shelf(None)
                    keep_files(one, {path: files[path] for path in order})
                    keep_files(other, {path: copy.deepcopy(files[path]) for path in order})
                    self.assertEqual(one.names(), other.names())
                    self.assertEqual([one.thing(name) for name in one.names()],
                                     [other.thing(name) for name in other.names()])

    def test_what_are_no_files_is_refused_and_changes_nothing(self):
        for make in (lambda: Shelf(None), cluttered):
            for place, files in enumerate(BAD_FILES):
                with self.subTest(place):
                    shelf = make()
                    before = shelf.names()
                    with self.assertRaises(BadFiles):
                        keep_files(shelf, files)
                    self.assertEqual(shelf.names(), before)

    def test_the_files_handed_in_are_neither_changed_nor_kept(self):
        shelf = Shelf(None)
        files = dict(FILES)
        root = keep_files(shelf, files)
        self.assertEqual(list(files.items()), list(FILES.items()))
        files["a/a"] = ("other",)
        files.pop("c")
        self.assertEqual(files_of(shelf, root), FILES)


class ReadFiles(unittest.TestCase):

    def test_the_files_that_were_kept(self):
        for files in GOOD_FILES + (FILES,):
            with self.subTest(files):
                shelf = cluttered()
                root = keep_files(shelf, files)
                before = shelf.names()
                told = files_of(shelf, root)
                self.assertEqual(told, files)
                self.assertIs(told.__class__, dict)
                self.assertEqual(shelf.names(), before)

    def test_paths_rise(self):
        for files in GOOD_FILES + (FILES, {"ab": (), "a/z": (), "a/b/z": (), "a/bc": (), "abc/a": (), "aa": ()}):
            with self.subTest(files):
                shelf = Shelf(None)
                self.assertEqual(list(files_of(shelf, keep_files(shelf, files))), sorted(files))

    def test_a_new_dict_each_time(self):
        shelf = Shelf(None)
        for files in ({}, FILES):
            root = keep_files(shelf, files)
            told = files_of(shelf, root)
            told["new"] = ("x",)
            told.pop("c", None)
            self.assertEqual(files_of(shelf, root), files)

    def test_what_was_told_stays_as_it_was(self):
        shelf = Shelf(None)
        root = keep_files(shelf, FILES)
        told = files_of(shelf, root)
        with_file(shelf, root, "c", ("other",))
        without_file(shelf, root, "c")
        self.assertEqual(told, FILES)

    def test_of_a_folder(self):
        shelf = Shelf(None)
        root = keep_files(shelf, FILES)
        self.assertEqual(files_of(shelf, found_at(shelf, root, "a/b")), {"x/w": (), "y": ("x",)})

    def test_of_other_stores(self):
        shelf = Shelf(None)
        root = keep_files(shelf, FILES)
        for store in (Shelf(shelf), plain(shelf), Shelf(plain(shelf))):
            self.assertEqual(files_of(store, root), FILES)
            self.assertEqual(list(files_of(store, root)), sorted(FILES))


class Found(unittest.TestCase):

    def setUp(self):
        self.shelf = Shelf(None)
        self.root = keep_files(self.shelf, FILES)

    def test_at_a_file(self):
        for path, lines in FILES.items():
            with self.subTest(path):
                name = found_at(self.shelf, self.root, path)
                self.assertEqual(self.shelf.thing(name), ("leaf", lines))

    def test_at_a_folder(self):
        for path in ("a", "a/b", "a/b/x", "d", "d/e", "d/e/f"):
            with self.subTest(path):
                name = found_at(self.shelf, self.root, path)
                self.assertEqual(self.shelf.thing(name)[0], "tree")
                self.assertEqual(files_of(self.shelf, name),
                                 {inner[len(path) + 1:]: lines for inner, lines in FILES.items()
                                  if inner.startswith(path + "/")})

    def test_at_neither(self):
        for path in ("b", "e", "abc", "a/c", "a/ab", "a/b/z", "a/b/x/a", "d/e/f/h", "d/f", "b/a", "b/c/d/e", "w"):
            with self.subTest(path):
                self.assertIsNone(found_at(self.shelf, self.root, path))

    def test_beneath_a_file(self):
        for path in ("c/a", "c/c", "c/a/b/c", "a/a/a", "ab/y", "a/b/y/x"):
            with self.subTest(path):
                self.assertIsNone(found_at(self.shelf, self.root, path))

    def test_in_no_files(self):
        root = keep_files(self.shelf, {})
        for path in ("a", "a/b", "a/b/c/d"):
            self.assertIsNone(found_at(self.shelf, root, path))

    def test_of_other_stores(self):
        for store in (Shelf(self.shelf), plain(self.shelf)):
            for path in ("c", "a", "a/b/y", "a/b/x", "b", "c/a"):
                self.assertEqual(found_at(store, self.root, path), found_at(self.shelf, self.root, path))

    def test_asking_puts_nothing(self):
        before = self.shelf.names()
        for path in ("c", "a", "b", "c/a"):
            found_at(self.shelf, self.root, path)
        self.assertEqual(self.shelf.names(), before)


ASKERS = (
    lambda store, root, path, lines: found_at(store, root, path),
    lambda store, root, path, lines: with_file(store, root, path, lines),
    lambda store, root, path, lines: without_file(store, root, path),
)


class Roots(unittest.TestCase):

    def setUp(self):
        self.shelf = Shelf(None)
        self.root = keep_files(self.shelf, FILES)
        note = self.shelf.put(("note", self.root, (), ""))
        self.no_roots = (found_at(self.shelf, self.root, "c"), note, "T84.0", "", "a", self.root + "0",
                         self.root + " ", self.root.lower(), ("tree", ()), self.shelf.thing(self.root)) + NO_TEXTS

    def need_refused(self, error, call):
        before = self.shelf.names()
        with self.assertRaises(error) as caught:
            call()
        self.assertIs(caught.exception.__class__, error)
        self.assertEqual(self.shelf.names(), before)

    def test_what_is_no_root(self):
        for store in (self.shelf, Shelf(self.shelf)):
            for place, wrong in enumerate(self.no_roots):
                with self.subTest(place):
                    self.need_refused(NoName, lambda: files_of(store, wrong))
                    for ask in ASKERS:
                        for path in ("c", "n"):
                            self.need_refused(NoName, lambda: ask(store, wrong, path, ("x",)))

    def test_what_is_no_root_of_another_store(self):
        store = plain(self.shelf)
        for place, wrong in enumerate(self.no_roots):
            with self.subTest(place):
                self.need_refused(NoName, lambda: files_of(store, wrong))
                self.need_refused(NoName, lambda: found_at(store, wrong, "c"))

    def test_a_root_of_another_shelf(self):
        other = Shelf(None)
        root = keep_files(other, {"q": ("q", "q", "q")})
        self.assertIs(self.shelf.has(root), False)
        self.need_refused(NoName, lambda: files_of(self.shelf, root))

    def test_no_name_comes_ahead_of_all_else(self):
        for place, wrong in enumerate(self.no_roots):
            for path in ("", "A", "a/b/c/d/e", None, ["a"]):
                with self.subTest(place=place, path=path):
                    for ask in ASKERS:
                        self.need_refused(NoName, lambda: ask(self.shelf, wrong, path, ["no lines"]))

    def test_what_is_no_path(self):
        for place, path in enumerate(BAD_PATHS + NO_TEXTS):
            with self.subTest(place):
                for ask in ASKERS:
                    self.need_refused(BadPath, lambda: ask(self.shelf, self.root, path, ("x",)))

    def test_bad_path_comes_ahead_of_bad_files(self):
        for path in ("c/", "/c", "a/b/c/d/e", None):
            for lines in (["x"], None, "x", ("x\n",)):
                self.need_refused(BadPath, lambda: with_file(self.shelf, self.root, path, lines))


class OneMore(TreeCase):

    def need_with(self, files, path, lines):
        """A file more is as F3 tells, with no other names than it may have."""
        shelf = cluttered()
        root = keep_files(shelf, files)
        before = shelf.names()
        found = with_file(shelf, root, path, lines)
        after = dict(files)
        after[path] = lines
        leaf = found_at(shelf, found, path)
        self.assertEqual(shelf.thing(leaf), ("leaf", lines))
        self.need_names(shelf, before, on_the_way(shelf, found, path) | {leaf})
        self.need_as_kept(shelf, found, after)
        self.assertEqual(files_of(shelf, root), files)

    def test_where_none_stood(self):
        for path in ("b", "z", "a/c", "a/b/a", "a/b/x/v", "a/bcd/a", "abc/a/b/c", "d/e/f/h", "d/a", "a/bd"):
            with self.subTest(path):
                self.need_with(FILES, path, ("new",))
                self.need_with(FILES, path, ())
                self.need_with(FILES, path, FILES["c"])

    def test_where_one_stood(self):
        for path in FILES:
            with self.subTest(path):
                self.need_with(FILES, path, ("new",))
                self.need_with(FILES, path, ("deep",))

    def test_with_the_lines_that_stood_there(self):
        for path, lines in FILES.items():
            with self.subTest(path):
                shelf = Shelf(None)
                root = keep_files(shelf, FILES)
                before = shelf.names()
                self.assertEqual(with_file(shelf, root, path, lines), root)
                self.assertEqual(shelf.names(), before)

    def test_the_first_of_all(self):
        for path in ("a", "a/b", "a/b/c/d"):
            with self.subTest(path):
                self.need_with({}, path, ("x",))

    def test_a_root_of_the_base(self):
        base = Shelf(None)
        root = keep_files(base, FILES)
        names = base.names()
        for shelf in (Shelf(base), Shelf(plain(base))):
            found = with_file(shelf, root, "a/c", ("new",))
            self.assertEqual(files_of(shelf, found)["a/c"], ("new",))
            self.assertEqual(base.names(), names)

    def test_one_by_one_as_all_at_once(self):
        shelf = Shelf(None)
        root = keep_files(shelf, {})
        for path, lines in FILES.items():
            root = with_file(shelf, root, path, lines)
        self.assertEqual(keep_files(shelf, FILES), root)

    def need_refused(self, path, lines):
        shelf = Shelf(None)
        root = keep_files(shelf, FILES)
        before = shelf.names()
        with self.assertRaises(BadFiles) as caught:
            with_file(shelf, root, path, lines)
        self.assertIs(caught.exception.__class__, BadFiles)
        self.assertEqual(shelf.names(), before)
        self.assertEqual(files_of(shelf, root), FILES)

    def test_what_are_no_lines(self):
        wrongs = (["x"], [], "x", "", None, 1, True, {}, ("x", 1), ("x", None), (("x",),), ("x" * 21,), ("x\n",),
                  ("50%",), (["x"],))
        for wrong in wrongs:
            for path in ("c", "new", "a/b/y", "a/new/b"):
                with self.subTest(wrong=wrong, path=path):
                    self.need_refused(path, wrong)

    def test_a_folder_at_the_path(self):
        for path in ("a", "a/b", "a/b/x", "d", "d/e", "d/e/f"):
            with self.subTest(path):
                self.need_refused(path, ("new",))
                self.need_refused(path, ("x",))

    def test_a_file_at_a_folder_of_the_path(self):
        for path in ("c/a", "c/a/b/c", "a/a/b", "a/a/b/c", "ab/c", "a/b/y/x", "a/bc/d/e"):
            with self.subTest(path):
                self.need_refused(path, ("new",))
                self.need_refused(path, ("x",))

    def test_a_label_that_begins_another_one_is_in_nobodys_way(self):
        self.need_with({"a": ("x",)}, "ab/c", ("y",))
        self.need_with({"ab/c": ("x",)}, "a", ("y",))
        self.need_with({"a/b/c": ("x",)}, "a/bc", ("y",))


class OneLess(TreeCase):

    def need_without(self, files, path):
        """A file less is as F3 tells, with no other names than it may have."""
        shelf = cluttered()
        root = keep_files(shelf, files)
        before = shelf.names()
        found = without_file(shelf, root, path)
        after = dict(files)
        after.pop(path)
        self.need_names(shelf, before, on_the_way(shelf, found, path))
        self.need_as_kept(shelf, found, after)
        self.assertEqual(files_of(shelf, root), files)

    def test_each_file(self):
        for files in GOOD_FILES + (FILES,):
            for path in files:
                with self.subTest(files=files, path=path):
                    self.need_without(files, path)

    def test_the_only_one_of_its_folders(self):
        shelf = Shelf(None)
        root = keep_files(shelf, {"d/e/f/g": ("deep",), "c": ("x",), "d/b": ("y",)})
        root = without_file(shelf, root, "d/e/f/g")
        self.assertEqual(read(shelf, root), {"c": ("x",), "d": {"b": ("y",)}})
        root = without_file(shelf, root, "d/b")
        self.assertEqual(read(shelf, root), {"c": ("x",)})
        self.assertNotIn(EMPTY_TREE, [shelf.thing(name) for name in shelf.names()])

    def test_the_only_one_of_all(self):
        for path in ("a", "a/b", "a/b/c/d"):
            with self.subTest(path):
                shelf = Shelf(None)
                root = keep_files(shelf, {path: ("x",)})
                before = shelf.names()
                self.assertEqual(without_file(shelf, root, path), "T84.0")
                self.assertEqual(shelf.thing("T84.0"), EMPTY_TREE)
                self.assertEqual(shelf.names(), before + ["T84.0"])

    def test_a_file_more_and_then_less(self):
        shelf = Shelf(None)
        root = keep_files(shelf, FILES)
        for path in ("b", "a/c", "d/e/f/h", "x/y/z"):
            with self.subTest(path):
                more = with_file(shelf, root, path, ("new",))
                names = shelf.names()
                self.assertEqual(without_file(shelf, more, path), root)
                self.assertEqual(shelf.names(), names)

    def test_where_no_file_stands(self):
        shelf = Shelf(None)
        root = keep_files(shelf, FILES)
        before = shelf.names()
        for path in ("b", "abc", "a/c", "b/c/d", "d/e/f/h",  # nothing
                     "a", "a/b", "a/b/x", "d", "d/e/f",  # a folder
                     "c/a", "c/c", "a/a/a", "a/b/y/x"):  # beneath a file
            with self.subTest(path):
                with self.assertRaises(NoFit) as caught:
                    without_file(shelf, root, path)
                self.assertIs(caught.exception.__class__, NoFit)
                self.assertEqual(shelf.names(), before)
                self.assertEqual(files_of(shelf, root), FILES)

    def test_of_no_files(self):
        shelf = Shelf(None)
        root = keep_files(shelf, {})
        with self.assertRaises(NoFit):
            without_file(shelf, root, "a")
        self.assertEqual(shelf.names(), [root])

    def test_a_root_of_the_base(self):
        base = Shelf(None)
        root = keep_files(base, FILES)
        names = base.names()
        shelf = Shelf(base)
        self.assertNotIn("a/a", files_of(shelf, without_file(shelf, root, "a/a")))
        self.assertEqual(base.names(), names)


if __name__ == "__main__":
    unittest.main()
