"""Promises F1 and F2, and annals.paths as the interface has it."""

import copy
import unittest

from samples import BAD_FILES, BAD_PATHS, GOOD_FILES, GOOD_PATHS, NO_TEXTS

from annals.errors import BadFiles, BadPath
from annals.paths import is_path, labels_of, need_files, path_over


class Paths(unittest.TestCase):

    def test_one_to_four_labels_are_a_path(self):
        for path in GOOD_PATHS:
            with self.subTest(path):
                self.assertIs(is_path(path), True)

    def test_how_many_labels(self):
        for count in range(1, 9):
            with self.subTest(count):
                self.assertIs(is_path("/".join(["ab"] * count)), count <= 4)

    def test_how_long_a_label(self):
        for count in range(1, 12):
            for path in ("a" * count, "a/" + "b" * count, "a" * count + "/b/c/d"):
                with self.subTest(path):
                    self.assertIs(is_path(path), count <= 8)

    def test_texts_that_are_no_paths(self):
        for text in BAD_PATHS:
            with self.subTest(ascii(text)):
                self.assertIs(is_path(text), False)

    def test_each_ascii_sign_is_told_apart(self):
        for number in range(128):
            sign = chr(number)
            with self.subTest(number):
                self.assertIs(is_path(sign), "a" <= sign <= "z")
                self.assertIs(is_path("a" + sign + "b"), "a" <= sign <= "z" or sign == "/")

    def test_what_is_no_text_is_no_path(self):
        for place, thing in enumerate(NO_TEXTS):
            with self.subTest(place):
                self.assertIs(is_path(thing), False)


class Labels(unittest.TestCase):

    def test_in_the_order_in_which_they_stand(self):
        self.assertEqual(labels_of("a"), ["a"])
        self.assertEqual(labels_of("b/a"), ["b", "a"])
        self.assertEqual(labels_of("c/a/b"), ["c", "a", "b"])
        self.assertEqual(labels_of("d/a/d/abcdefgh"), ["d", "a", "d", "abcdefgh"])

    def test_a_list_of_the_askers_own(self):
        told = labels_of("b/a")
        self.assertIs(told.__class__, list)
        told.append("c")
        self.assertEqual(labels_of("b/a"), ["b", "a"])

    def test_they_make_the_path_again(self):
        for path in GOOD_PATHS:
            with self.subTest(path):
                self.assertEqual("/".join(labels_of(path)), path)

    def test_what_is_no_path_is_refused(self):
        for place, thing in enumerate(BAD_PATHS + NO_TEXTS):
            with self.subTest(place):
                with self.assertRaises(BadPath):
                    labels_of(thing)


class Folders(unittest.TestCase):

    def test_the_folders_of_a_path(self):
        for folder in ("a", "a/b", "a/b/c"):
            with self.subTest(folder):
                self.assertIs(path_over(folder, "a/b/c/d"), True)
                self.assertIs(path_over("a/b/c/d", folder), False)

    def test_a_beginning_without_the_sign_behind(self):
        for one, other in (("a", "ab"), ("a", "ab/c"), ("a/b", "a/bc"), ("a/b", "a/bc/d"), ("ab", "a/b")):
            with self.subTest(one=one, other=other):
                self.assertIs(path_over(one, other), False)
                self.assertIs(path_over(other, one), False)

    def test_a_path_that_stands_further_behind(self):
        self.assertIs(path_over("b", "a/b/c"), False)
        self.assertIs(path_over("a", "b/a/c"), False)

    def test_a_text_and_itself(self):
        for text in ("", "/", "a", "a/", "a/b", "a/b/c/d", "No Path"):
            with self.subTest(text):
                self.assertIs(path_over(text, text), False)

    def test_texts_that_are_no_paths(self):
        for one, other in (("", "/"), ("", "/a"), ("", "//"), ("/", "//"), ("/", "//a"), ("a", "a/"), ("a", "a//"),
                           ("A b", "A b/C"), ("a/b/c/d", "a/b/c/d/e"), ("a/b/c/d/e", "a/b/c/d/e/f"),
                           ("\n", "\n/"), ("a.c", "a.c/d"), ("abcdefghi", "abcdefghi/a"), ("a/", "a//b")):
            with self.subTest(one=one, other=other):
                self.assertIs(path_over(one, other), True)
                self.assertIs(path_over(other, one), False)
        for one, other in (("", ""), ("", "a"), ("", "a/"), ("/", "/a"), ("a/", "a/b"), ("a.c", "abc/d"),
                           ("A", "a/b"), ("[a]", "a/b"), ("a ", "a/b")):
            with self.subTest(one=one, other=other):
                self.assertIs(path_over(one, other), False)
                self.assertIs(path_over(other, one), False)


class Files(unittest.TestCase):

    def test_files_are_let_by(self):
        for files in GOOD_FILES:
            with self.subTest(files):
                self.assertIsNone(need_files(files))

    def test_many_files(self):
        letters = "abcdefghijklmnopqrstuvwxyz"
        files = {one + "/" + other + "/x": (one,) for one in letters for other in letters}
        self.assertIsNone(need_files(files))
        files["q/q"] = ()
        with self.assertRaises(BadFiles):
            need_files(files)

    def test_what_are_no_files_is_refused(self):
        for place, files in enumerate(BAD_FILES):
            with self.subTest(place):
                with self.assertRaises(BadFiles):
                    need_files(files)

    def test_each_bad_path_and_each_good_one(self):
        for path in BAD_PATHS:
            with self.subTest(ascii(path)):
                with self.assertRaises(BadFiles):
                    need_files({"a": (), path: ()})
        for path in GOOD_PATHS:
            with self.subTest(path):
                self.assertIsNone(need_files({path: ("x",)}))

    def test_a_path_that_begins_another_one_without_being_its_folder(self):
        for files in ({"a": (), "ab": ()}, {"ab": (), "a": ()}, {"a": (), "ab/c": ()}, {"x/a": (), "x/ab/c": ()}):
            with self.subTest(files):
                self.assertIsNone(need_files(files))

    def test_what_is_handed_in_is_not_changed(self):
        for files in GOOD_FILES:
            before = copy.deepcopy(files)
            need_files(files)
            self.assertEqual(list(files.items()), list(before.items()))
        lines = ["x"]
        files = {"a": lines}
        with self.assertRaises(BadFiles):
            need_files(files)
        self.assertEqual(files, {"a": ["x"]})
        self.assertIs(files["a"], lines)


if __name__ == "__main__":
    unittest.main()
