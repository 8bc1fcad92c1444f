"""Promises 5.1, 5.3 and 5.4 as far as they speak of annals.versions, and annals.versions as the interface has it."""

import copy
import unittest

from samples import (BAD_FILES, GOOD_FILES, NO_LABELS, NO_LINES, NO_TEXTS, AnnalsCase, led_to, nested, no_versions,
                     plain, read, shaken, state, unfolded)

from annals.errors import BadBranch, BadFiles, BadLine, NoBranch, NoVersion
from annals.shelf import Shelf
from annals.trees import keep_files
from annals.versions import Annals, noted

FILES = {"c": ("see", ""), "a/b/y": ("x",), "a/a": ("x",), "ab": ()}
OTHER = {"b": ("x", "y"), "a": ("z",)}

NO_BRANCHES = NO_TEXTS + ("", "a", "mai", "mainn", "Main", "main ", "a/b", "abcdefghi")


class Noted(unittest.TestCase):

    def test_a_note_of_the_files(self):
        for files in GOOD_FILES + (FILES,):
            shelf = Shelf(None)
            name = noted(shelf, files, [], "some words")
            root = keep_files(shelf, files)
            self.assertEqual(shelf.thing(name), ("note", root, (), "some words"))
            self.assertEqual(set(shelf.names()), led_to(shelf, root) | {name})
            self.assertEqual(shelf.names()[-1], name)

    def test_parents(self):
        shelf = Shelf(None)
        first = noted(shelf, {}, [], "")
        second = noted(shelf, FILES, [first], "w" * 20)
        third = noted(shelf, FILES, [second, first], "both")
        fourth = noted(shelf, FILES, [first, second], "both")
        self.assertEqual([shelf.thing(name)[2] for name in (first, second, third, fourth)],
                         [(), (first,), (second, first), (first, second)])
        self.assertEqual([shelf.thing(name)[3] for name in (first, second, third, fourth)],
                         ["", "w" * 20, "both", "both"])
        self.assertEqual(len({first, second, third, fourth}), 4)

    def test_a_note_that_is_there_already(self):
        shelf = Shelf(None)
        first = noted(shelf, FILES, [], "w")
        second = noted(shelf, OTHER, [first], "w")
        names = shelf.names()
        self.assertEqual(noted(shelf, dict(reversed(FILES.items())), [], "w"), first)
        self.assertEqual(noted(shelf, OTHER, [first], "w"), second)
        self.assertEqual(shelf.names(), names)

    def test_what_is_handed_in_is_neither_changed_nor_kept(self):
        shelf = Shelf(None)
        files = dict(FILES)
        parents = [noted(shelf, {}, [], "")]
        kept = list(parents)
        name = noted(shelf, files, parents, "w")
        told = shelf.thing(name)
        self.assertEqual((files, list(files), parents), (FILES, list(FILES), kept))
        files["d"] = ("later",)
        parents.append(name)
        self.assertEqual(shelf.thing(name), told)
        self.assertEqual(told, ("note", keep_files(shelf, FILES), tuple(kept), "w"))
        # Used again, as they are by now.
        other = noted(shelf, files, parents, "w")
        self.assertEqual(shelf.thing(other)[2], (kept[0], name))
        self.assertEqual(shelf.thing(name), told)


class Fresh(AnnalsCase):

    def test_without_versions_and_branches(self):
        annals = Annals()
        self.assertEqual(state(annals), ([], []))
        self.assertIs(annals.shelf.__class__, Shelf)

    def test_a_shelf_of_its_own(self):
        self.assertIsNot(Annals().shelf, Annals().shelf)

    def test_things_are_put_on_the_shelf(self):
        annals = Annals()
        annals.begin("main", None)
        shelf = annals.shelf
        version = annals.keep("main", FILES, "w")
        self.assertIs(annals.shelf, shelf)
        self.assertTrue(shelf.has(version))


class Kept(AnnalsCase):

    def setUp(self):
        self.annals = Annals()
        self.annals.begin("main", None)
        self.annals.begin("side", None)

    def need_version(self, version, files, parents, words):
        thing = self.annals.shelf.thing(version)
        self.assertEqual(thing, ("note", thing[1], tuple(parents), words))
        self.assertEqual(thing[1], keep_files(self.annals.shelf, files))
        self.assertEqual(self.annals.files(version), files)

    def test_at_nothing(self):
        version = self.annals.keep("main", FILES, "first")
        self.need_version(version, FILES, [], "first")
        self.assertEqual(read(self.annals.shelf, self.annals.shelf.thing(version)[1]), nested(FILES))
        self.assertEqual(self.annals.head("main"), version)

    def test_at_a_version(self):
        first = self.annals.keep("main", FILES, "first")
        second = self.annals.keep("main", OTHER, "second")
        third = self.annals.keep("main", {}, "third")
        self.need_version(second, OTHER, [first], "second")
        self.need_version(third, {}, [second], "third")
        self.assertEqual(self.annals.head("main"), third)
        self.need_version(first, FILES, [], "first")

    def test_no_other_branch_moves(self):
        first = self.annals.keep("main", FILES, "first")
        self.annals.begin("third", first)
        second = self.annals.keep("main", OTHER, "second")
        self.assertEqual(self.annals.branches(), [("main", second), ("side", None), ("third", first)])
        third = self.annals.keep("third", OTHER, "third")
        self.need_version(third, OTHER, [first], "third")
        self.assertEqual(self.annals.branches(), [("main", second), ("side", None), ("third", third)])

    def test_nothing_is_put_but_the_files_and_the_note(self):
        for files in GOOD_FILES:
            names = self.annals.shelf.names()
            version = self.annals.keep("main", files, "w")
            told = self.annals.shelf.names()
            root = self.annals.shelf.thing(version)[1]
            self.assertEqual(told[:len(names)], names)
            self.assertEqual(set(told), set(names) | led_to(self.annals.shelf, root) | {version})

    def test_the_same_files_once_more_are_another_version(self):
        first = self.annals.keep("main", FILES, "w")
        second = self.annals.keep("main", FILES, "w")
        self.assertNotEqual(first, second)
        self.need_version(second, FILES, [first], "w")

    def test_the_very_note_twice_on_one_branch(self):
        first = self.annals.keep("main", FILES, "first")
        second = self.annals.keep("main", OTHER, "second")
        self.annals.keep("main", {}, "third")
        self.annals.set_head("main", first)
        names = self.annals.shelf.names()
        self.assertEqual(self.annals.keep("main", dict(reversed(OTHER.items())), "second"), second)
        self.assertEqual(self.annals.head("main"), second)
        self.assertEqual(self.annals.shelf.names(), names)

    def test_the_very_note_on_two_branches(self):
        first = self.annals.keep("main", FILES, "first")
        second = self.annals.keep("main", OTHER, "second")
        names = self.annals.shelf.names()
        self.assertEqual(self.annals.keep("side", FILES, "first"), first)
        self.assertEqual(self.annals.branches(), [("main", second), ("side", first)])
        self.assertEqual(self.annals.keep("side", OTHER, "second"), second)
        self.assertEqual(self.annals.branches(), [("main", second), ("side", second)])
        self.assertEqual(self.annals.shelf.names(), names)

    def test_other_words_are_another_version(self):
        first = self.annals.keep("main", FILES, "first")
        other = self.annals.keep("side", FILES, "First")
        self.assertNotEqual(first, other)
        self.need_version(other, FILES, [], "First")

    def test_words_at_the_edges(self):
        for words in ("", " ", "~" * 20, "a | b"):
            self.assertEqual(self.annals.shelf.thing(self.annals.keep("main", {}, words))[3], words)

    def test_order_of_refusals(self):
        self.annals.keep("main", FILES, "w")
        for files in BAD_FILES:
            for words in NO_LINES:
                self.need_refused(self.annals, NoBranch, lambda: self.annals.keep("none", files, words))
                self.need_refused(self.annals, BadFiles, lambda: self.annals.keep("main", files, words))
            self.need_refused(self.annals, NoBranch, lambda: self.annals.keep("none", files, "w"))
            self.need_refused(self.annals, BadFiles, lambda: self.annals.keep("main", files, "w"))
        for words in NO_LINES:
            self.need_refused(self.annals, NoBranch, lambda: self.annals.keep("none", OTHER, words))
            self.need_refused(self.annals, BadLine, lambda: self.annals.keep("main", OTHER, words))
        for branch in NO_BRANCHES:
            self.need_refused(self.annals, NoBranch, lambda: self.annals.keep(branch, OTHER, "w"))

    def test_refused_at_nothing(self):
        self.need_refused(self.annals, BadFiles, lambda: self.annals.keep("main", {"a": (), "a/b": ()}, "w"))
        self.need_refused(self.annals, BadLine, lambda: self.annals.keep("main", FILES, "w" * 21))
        self.assertEqual(self.annals.shelf.names(), [])


class Branches(AnnalsCase):

    def setUp(self):
        self.annals = Annals()
        self.annals.begin("main", None)
        self.first = self.annals.keep("main", FILES, "first")
        self.second = self.annals.keep("main", OTHER, "second")

    def test_rising_labels(self):
        for label in ("zz", "b", "ab", "mainly", "a", "abcdefgh"):
            self.assertIsNone(self.annals.begin(label, None))
        told = self.annals.branches()
        self.assertEqual(told, [("a", None), ("ab", None), ("abcdefgh", None), ("b", None), ("main", self.second),
                                ("mainly", None), ("zz", None)])
        self.assertEqual({row.__class__ for row in told}, {tuple})

    def test_begun_at_a_version_or_at_nothing(self):
        names = self.annals.shelf.names()
        self.assertIsNone(self.annals.begin("old", self.first))
        self.assertIsNone(self.annals.begin("none", None))
        self.assertEqual(self.annals.branches(), [("main", self.second), ("none", None), ("old", self.first)])
        self.assertEqual([self.annals.head(label) for label in ("main", "none", "old")],
                         [self.second, None, self.first])
        self.assertEqual(self.annals.shelf.names(), names)

    def test_what_is_no_label(self):
        for label in NO_LABELS:
            for version in (None, self.first, "none", self.annals.shelf.names()[0], 7, []):
                self.need_refused(self.annals, BadBranch, lambda: self.annals.begin(label, version))

    def test_a_branch_already(self):
        self.annals.begin("none", None)
        for label in ("main", "none"):
            for version in (None, self.first, self.second, "none", 7, []):
                self.need_refused(self.annals, BadBranch, lambda: self.annals.begin(label, version))

    def test_begun_at_what_is_no_version(self):
        for version in no_versions(self.annals.shelf):
            if version is not None:
                self.need_refused(self.annals, NoVersion, lambda: self.annals.begin("side", version))
        # The label is free all the same.
        self.assertIsNone(self.annals.begin("side", self.first))

    def test_set(self):
        self.annals.begin("side", self.second)
        self.annals.begin("none", None)
        names = self.annals.shelf.names()
        self.assertIsNone(self.annals.set_head("side", self.first))
        self.assertEqual(self.annals.branches(), [("main", self.second), ("none", None), ("side", self.first)])
        self.assertIsNone(self.annals.set_head("none", self.second))
        self.assertEqual(self.annals.branches(), [("main", self.second), ("none", self.second), ("side", self.first)])
        self.assertIsNone(self.annals.set_head("main", self.second))
        self.assertEqual(self.annals.head("main"), self.second)
        self.assertEqual(self.annals.shelf.names(), names)

    def test_set_at_what_is_no_version(self):
        for version in no_versions(self.annals.shelf):
            self.need_refused(self.annals, NoVersion, lambda: self.annals.set_head("main", version))

    def test_what_is_no_branch(self):
        for branch in NO_BRANCHES:
            self.need_refused(self.annals, NoBranch, lambda: self.annals.head(branch))
            for version in (self.first, None, "none", [], self.annals.shelf.names()[0]):
                self.need_refused(self.annals, NoBranch, lambda: self.annals.set_head(branch, version))

    def test_no_version_is_asked_for_ahead_of_a_branch(self):
        annals = Annals()
        self.need_refused(annals, NoBranch, lambda: annals.head("main"))
        self.need_refused(annals, NoBranch, lambda: annals.set_head("main", self.first))
        self.need_refused(annals, NoVersion, lambda: annals.begin("main", self.first))


class Files(AnnalsCase):

    def setUp(self):
        self.annals = Annals()
        self.annals.begin("main", None)

    def test_rising_paths(self):
        for files in GOOD_FILES + (FILES, dict(reversed(FILES.items()))):
            version = self.annals.keep("main", files, "w")
            told = self.need_untouched(self.annals, lambda: self.annals.files(version))
            self.assertEqual(list(told.items()), sorted(files.items()))

    def test_of_any_version(self):
        first = self.annals.keep("main", FILES, "w")
        self.annals.keep("main", OTHER, "w")
        self.assertEqual(self.annals.files(first), FILES)
        both = noted(self.annals.shelf, {"a": ()}, [first, self.annals.head("main")], "by itself")
        self.assertEqual(self.annals.files(both), {"a": ()})

    def test_what_is_no_version(self):
        self.annals.keep("main", FILES, "w")
        for version in no_versions(self.annals.shelf):
            self.need_refused(self.annals, NoVersion, lambda: self.annals.files(version))


class StandOn(AnnalsCase):

    def setUp(self):
        self.annals = Annals()
        self.annals.begin("main", None)
        self.first = self.annals.keep("main", FILES, "first")
        self.annals.begin("side", self.first)
        self.second = self.annals.keep("main", OTHER, "second")

    def test_a_shelf_upon_the_old_one(self):
        old = self.annals.shelf
        names = old.names()
        told = self.annals.branches()
        upper = Shelf(old)
        self.assertIsNone(self.annals.stand_on(upper))
        self.assertIs(self.annals.shelf, upper)
        self.assertEqual(self.annals.branches(), told)
        self.assertEqual(self.annals.files(self.first), FILES)
        third = self.annals.keep("main", {"new": ("new",)}, "third")
        self.assertTrue(upper.has(third))
        self.assertEqual(upper.thing(third)[2], (self.second,))
        self.assertEqual(old.names(), names)
        self.assertEqual(upper.names()[:len(names)], names)
        # As it would have come on the old one.
        self.assertEqual(noted(old, {"new": ("new",)}, [self.second], "third"), third)

    def test_asked_are_versions_of_the_new_one(self):
        old = self.annals.shelf
        upper = Shelf(old)
        more = noted(upper, {"new": ()}, [self.first], "more")
        for ask in (lambda: self.annals.begin("more", more), lambda: self.annals.set_head("main", more),
                    lambda: self.annals.files(more)):
            self.need_refused(self.annals, NoVersion, ask)
        self.annals.stand_on(upper)
        self.assertEqual(self.annals.files(more), {"new": ()})
        self.annals.begin("more", more)
        self.annals.set_head("main", more)
        self.assertEqual(self.annals.branches(), [("main", more), ("more", more), ("side", self.first)])

    def test_a_very_note_that_the_new_one_has(self):
        upper = Shelf(self.annals.shelf)
        more = noted(upper, {"new": ()}, [self.second], "more")
        names = upper.names()
        self.annals.stand_on(upper)
        self.assertEqual(self.annals.keep("main", {"new": ()}, "more"), more)
        self.assertEqual(upper.names(), names)

    def test_upon_any_base(self):
        for other in (plain, shaken, Shelf):
            upper = Shelf(other(self.annals.shelf))
            self.annals.stand_on(upper)
            self.assertEqual(self.annals.files(self.second), OTHER)
            self.need_refused(self.annals, BadFiles, lambda: self.annals.keep("side", {"": ()}, "w"))
            version = self.annals.keep("side", {"side": ()}, "w")
            self.assertEqual(upper.names()[-1], version)


class AskersOwn(AnnalsCase):

    def setUp(self):
        self.annals = Annals()
        self.annals.begin("main", None)
        self.first = self.annals.keep("main", FILES, "first")
        self.annals.begin("side", None)

    def test_told_lists_and_dicts_are_new(self):
        for ask in (self.annals.branches, lambda: self.annals.files(self.first)):
            told = ask()
            kept = copy.deepcopy(told)
            told.clear()
            self.assertEqual(ask(), kept)
        told = self.annals.files(self.first)
        told["a/a"] = ("mine",)
        self.assertEqual(self.annals.files(self.first), FILES)

    def test_what_was_told_stays(self):
        branches = self.annals.branches()
        files = self.annals.files(self.first)
        kept = copy.deepcopy((branches, files))
        self.annals.keep("main", OTHER, "second")
        self.annals.set_head("side", self.first)
        self.annals.begin("third", self.first)
        self.annals.stand_on(Shelf(self.annals.shelf))
        self.assertEqual((branches, files), kept)

    def test_handed_in_files_are_neither_changed_nor_kept(self):
        files = {"c": ("x",), "b/a": ("y",), "a": ()}
        kept = list(files.items())
        version = self.annals.keep("side", files, "w")
        self.assertEqual(list(files.items()), kept)
        thing = self.annals.shelf.thing(version)
        files["a"] = ("changed",)
        files.pop("c")
        self.assertEqual(self.annals.files(version), dict(kept))
        # Used again, as they are by now.
        second = self.annals.keep("side", files, "w")
        self.assertEqual(self.annals.files(second), {"a": ("changed",), "b/a": ("y",)})
        self.assertEqual(self.annals.files(version), dict(kept))
        self.assertEqual(self.annals.shelf.thing(version), thing)

    def test_told_files_kept_again(self):
        files = self.annals.files(self.first)
        version = self.annals.keep("main", files, "again")
        files.clear()
        self.assertEqual(self.annals.files(version), FILES)

    def test_asking_puts_nothing(self):
        self.need_untouched(self.annals, lambda: (self.annals.branches(), self.annals.head("main"),
                                                  self.annals.head("side"), self.annals.files(self.first)))


class SideBySide(AnnalsCase):

    def test_two_annals(self):
        one = Annals()
        other = Annals()
        one.begin("main", None)
        self.assertEqual(state(other), ([], []))
        other.begin("main", None)
        version = self.need_untouched(other, lambda: one.keep("main", FILES, "w"))
        self.assertEqual(one.branches(), [("main", version)])
        self.need_refused(other, NoVersion, lambda: other.files(version))
        self.need_refused(other, NoVersion, lambda: other.set_head("main", version))
        self.need_untouched(other, lambda: one.begin("side", version))
        self.need_refused(other, NoBranch, lambda: other.head("side"))
        told = self.need_untouched(one, lambda: other.keep("main", OTHER, "w"))
        self.assertEqual(unfolded(other.shelf, told), (OTHER, (), "w"))
        self.need_untouched(other, lambda: one.stand_on(Shelf(one.shelf)))
        self.need_untouched(other, lambda: one.keep("side", {}, "w"))

    def test_the_same_done_to_two_tells_the_same(self):
        both = [Annals(), Annals()]
        for annals in both:
            annals.begin("main", None)
            annals.keep("main", FILES, "first")
            annals.keep("main", OTHER, "second")
            annals.begin("side", annals.head("main"))
            annals.keep("side", {}, "third")
        self.assertEqual(state(both[0]), state(both[1]))


if __name__ == "__main__":
    unittest.main()
