"""How D2, D3 and D5 have lines, changes and versions told, and annals.told as the interface has it."""

import copy
import itertools
import unittest

from samples import SHAPES, all_rows, filled, lies_before, no_versions, plain, shaken, told_way

from annals.errors import NoVersion
from annals.lines import patched
from annals.packs import Pack
from annals.shelf import Shelf
from annals.told import told_changes, told_lines, told_log
from annals.versions import noted


class Lines(unittest.TestCase):

    def test_each_with_a_sign_ahead(self):
        self.assertEqual(told_lines(("a", "b c", "")), ["|a", "|b c", "|"])
        self.assertEqual(told_lines(("|", " ", "||a|")), ["||", "| ", "|||a|"])

    def test_none(self):
        self.assertEqual(told_lines(()), [])

    def test_lines_beyond_their_bounds(self):
        self.assertEqual(told_lines(("a" * 25,)), ["|" + "a" * 25])

    def test_the_askers_own(self):
        lines = ("a", "b")
        told = told_lines(lines)
        self.assertIs(told.__class__, list)
        told.append("mine")
        self.assertEqual(told_lines(lines), ["|a", "|b"])


def read_back(texts):
    """The spans that the texts behind a changed path tell."""
    spans = []
    for text in texts:
        if text[2] == "|":
            low, high, lines = spans[-1]
            spans[-1] = (low, high, lines + (text[3:],))
        else:
            low, high = text[2:].split(" ")
            spans.append((int(low), int(high), ()))
    return spans


class Changes(unittest.TestCase):

    def test_none(self):
        self.assertEqual(told_changes([]), [])

    def test_each_kind_of_row(self):
        self.assertEqual(told_changes([("a", None, ("x", "y"))]), ["+ a"])
        self.assertEqual(told_changes([("a/b", ("x", "y"), None)]), ["- a/b"])
        self.assertEqual(told_changes([("a", ("x",), ("y",))]), ["* a", "  0 1", "  |y"])

    def test_files_without_lines(self):
        self.assertEqual(told_changes([("a", None, ()), ("b", (), None)]), ["+ a", "- b"])
        self.assertEqual(told_changes([("a", (), ("x",))]), ["* a", "  0 0", "  |x"])
        self.assertEqual(told_changes([("a", ("x",), ())]), ["* a", "  0 1"])

    def test_several_spans(self):
        self.assertEqual(told_changes([("a", tuple("abcdefgh"), tuple("xycdfgzzh"))]),
                         ["* a", "  0 2", "  |x", "  |y", "  4 5", "  7 7", "  |z", "  |z"])

    def test_ends_of_several_figures(self):
        old = tuple(str(number) for number in range(120))
        new = old[:10] + ("x",) + old[100:110] + old[111:]
        self.assertEqual(told_changes([("a", old, new)]), ["* a", "  10 100", "  |x", "  110 111"])

    def test_lines_that_look_like_something_else(self):
        self.assertEqual(told_changes([("a", (), ("", "  0 1", "|", "+ a"))]),
                         ["* a", "  0 0", "  |", "  |  0 1", "  ||", "  |+ a"])

    def test_several_rows(self):
        rows = [("a", None, ("x",)), ("b/c", ("x",), ("x", "y")), ("b/d", ("x",), None), ("c", ("x", "y"), ("y",))]
        self.assertEqual(told_changes(rows), ["+ a", "* b/c", "  1 1", "  |y", "- b/d", "* c", "  0 1"])

    def test_the_spans_lead_from_the_one_to_the_other(self):
        for old, new in itertools.product(all_rows(("a", "b"), 4), repeat=2):
            if old != new:
                told = told_changes([("p", old, new)])
                self.assertEqual(told[0], "* p")
                self.assertEqual(patched(old, read_back(told[1:])), new)

    def test_the_askers_own(self):
        rows = [("a", None, ("x",)), ("b", ("x",), ("y",))]
        kept = copy.deepcopy(rows)
        told = told_changes(rows)
        self.assertIs(told.__class__, list)
        self.assertEqual(rows, kept)
        texts = list(told)
        rows.clear()
        self.assertEqual(told, texts)
        told.clear()
        self.assertEqual(told_changes(kept), texts)


class Log(unittest.TestCase):

    def test_nothing(self):
        for store in (Shelf(None), filled(SHAPES[3])[0], plain(filled(SHAPES[3])[0])):
            self.assertEqual(told_log(store, None), [])

    def test_a_row(self):
        shelf, names = filled({"a": "", "b": "a", "c": "b"})
        self.assertEqual(told_log(shelf, names["a"]), ["1 a"])
        self.assertEqual(told_log(shelf, names["c"]), ["3 c", "2 b", "1 a"])

    def test_two_parents(self):
        # All that lead to the join are counted, and those by its first parent are told.
        shelf, names = filled({"a": "", "b": "a", "s": "a", "t": "s", "d": "bt", "e": "d", "f": "tb"})
        self.assertEqual(told_log(shelf, names["d"]), ["5 d", "2 b", "1 a"])
        self.assertEqual(told_log(shelf, names["e"]), ["6 e", "5 d", "2 b", "1 a"])
        self.assertEqual(told_log(shelf, names["f"]), ["5 f", "3 t", "2 s", "1 a"])

    def test_versions_on_other_ways_are_not_counted(self):
        shelf, names = filled({"a": "", "b": "a", "c": "a", "d": "", "e": "c"})
        self.assertEqual(told_log(shelf, names["b"]), ["2 b", "1 a"])
        self.assertEqual(told_log(shelf, names["d"]), ["1 d"])

    def test_words(self):
        shelf = Shelf(None)
        first = noted(shelf, {}, [], "")
        second = noted(shelf, {}, [first], " two  words ")
        self.assertEqual(told_log(shelf, second), ["2  two  words ", "1 "])

    def test_as_the_document_tells(self):
        for shape in SHAPES:
            shelf, names = filled(shape)
            for letter in shape:
                told = [str(sum(lies_before(shape, other, one) for other in shape)) + " " + one
                        for one in told_way(shape, letter)]
                for store in (shelf, plain(shelf), shaken(shelf), Shelf(shelf), Pack(shelf, [names[letter]])):
                    self.assertEqual(told_log(store, names[letter]), told)

    def test_what_is_no_version(self):
        shelf = filled(SHAPES[3])[0]
        for store in (shelf, plain(shelf), Pack(shelf, shelf.names())):
            for wrong in no_versions(shelf):
                if wrong is not None:
                    with self.assertRaises(NoVersion) as caught:
                        told_log(store, wrong)
                    self.assertIs(caught.exception.__class__, NoVersion)

    def test_the_askers_own(self):
        shelf, names = filled({"a": "", "b": "a"})
        told = told_log(shelf, names["b"])
        self.assertIs(told.__class__, list)
        noted(shelf, {}, [names["b"]], "later")
        self.assertEqual(told, ["2 b", "1 a"])
        told.clear()
        self.assertEqual(told_log(shelf, names["b"]), ["2 b", "1 a"])
        told_log(shelf, None).append("mine")
        self.assertEqual(told_log(shelf, None), [])

    def test_a_long_row(self):
        shelf = Shelf(None)
        version = noted(shelf, {}, [], "0")
        side = noted(shelf, {}, [version], "side")
        for number in range(1, 3000):
            version = noted(shelf, {}, [version, side] if number == 1000 else [version], str(number))
        told = told_log(shelf, version)
        self.assertEqual(len(told), 3000)
        self.assertEqual((told[0], told[-1001], told[-1000], told[-1]), ("3001 2999", "1002 1000", "1000 999", "1 0"))


if __name__ == "__main__":
    unittest.main()
