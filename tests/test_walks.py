"""Promises 5.1 and 5.2 as far as they speak of annals.walks, and annals.walks as the interface has it."""

import itertools
import unittest

from samples import SHAPES, Base, filled, lies_before, no_versions, plain, shaken, told_meeting

from annals.errors import NoVersion
from annals.shelf import Shelf
from annals.walks import all_before, is_before, meeting_of, parents_of, tree_of, words_of


class Notes(unittest.TestCase):

    def setUp(self):
        self.shelf = Shelf(None)
        self.leaf = self.shelf.put(("leaf", ("x",)))
        self.empty = self.shelf.put(("tree", ()))
        self.tree = self.shelf.put(("tree", (("a", self.leaf),)))
        self.first = self.shelf.put(("note", self.empty, (), ""))
        self.second = self.shelf.put(("note", self.tree, (self.first,), "some words"))
        self.third = self.shelf.put(("note", self.tree, (self.second, self.first), "w" * 20))
        self.fourth = self.shelf.put(("note", self.empty, (self.first, self.second), "w"))

    def test_trees(self):
        self.assertEqual([tree_of(self.shelf, name) for name in (self.first, self.second, self.third, self.fourth)],
                         [self.empty, self.tree, self.tree, self.empty])

    def test_parents(self):
        self.assertEqual(parents_of(self.shelf, self.first), [])
        self.assertEqual(parents_of(self.shelf, self.second), [self.first])
        self.assertEqual(parents_of(self.shelf, self.third), [self.second, self.first])
        self.assertEqual(parents_of(self.shelf, self.fourth), [self.first, self.second])

    def test_words(self):
        self.assertEqual([words_of(self.shelf, name) for name in (self.first, self.second, self.third)],
                         ["", "some words", "w" * 20])

    def test_any_store(self):
        for store in (Shelf(self.shelf), plain(self.shelf), Shelf(plain(self.shelf)), shaken(self.shelf)):
            self.assertEqual(tree_of(store, self.third), self.tree)
            self.assertEqual(parents_of(store, self.third), [self.second, self.first])
            self.assertEqual(words_of(store, self.third), "w" * 20)
            self.assertEqual(set(all_before(store, self.third)), {self.first, self.second, self.third})
            self.assertIs(is_before(store, self.first, self.third), True)
            self.assertEqual(meeting_of(store, self.third, self.fourth), [self.second])

    def test_lists_of_the_askers_own(self):
        for ask in (lambda: parents_of(self.shelf, self.third), lambda: all_before(self.shelf, self.third),
                    lambda: meeting_of(self.shelf, self.third, self.fourth)):
            told = ask()
            kept = list(told)
            self.assertIs(told.__class__, list)
            told.append("mine")
            self.assertEqual(ask(), kept)
            told = ask()
            self.shelf.put(("note", self.empty, (self.third, self.fourth), "later"))
            self.assertEqual(told, kept)

    def test_asking_puts_nothing(self):
        names = self.shelf.names()
        for name in (self.first, self.second, self.third, self.fourth):
            tree_of(self.shelf, name)
            parents_of(self.shelf, name)
            words_of(self.shelf, name)
            all_before(self.shelf, name)
            is_before(self.shelf, name, self.third)
            meeting_of(self.shelf, name, self.third)
        self.assertEqual(self.shelf.names(), names)

    def test_what_is_no_version(self):
        names = self.shelf.names()
        for store in (self.shelf, plain(self.shelf)):
            for name in no_versions(self.shelf):
                for asked in (lambda: tree_of(store, name), lambda: parents_of(store, name),
                              lambda: words_of(store, name), lambda: all_before(store, name),
                              lambda: is_before(store, name, self.first), lambda: is_before(store, self.first, name),
                              lambda: is_before(store, name, name), lambda: meeting_of(store, name, self.first),
                              lambda: meeting_of(store, self.first, name), lambda: meeting_of(store, name, name)):
                    with self.assertRaises(NoVersion) as caught:
                        asked()
                    self.assertIs(caught.exception.__class__, NoVersion)
        self.assertEqual(self.shelf.names(), names)

    def test_a_version_of_another_store(self):
        for asked in (tree_of, parents_of, words_of, all_before):
            with self.assertRaises(NoVersion):
                asked(Shelf(None), self.first)
        for asked in (is_before, meeting_of):
            with self.assertRaises(NoVersion):
                asked(Shelf(None), self.first, self.first)


class Before(unittest.TestCase):

    def test_a_row(self):
        shelf, names = filled({"a": "", "b": "a", "c": "b", "d": "b"})
        self.assertEqual(all_before(shelf, names["a"]), [names["a"]])
        self.assertEqual(all_before(shelf, names["c"]), [names["a"], names["b"], names["c"]])
        self.assertEqual(all_before(shelf, names["d"]), [names["a"], names["b"], names["d"]])

    def test_two_parents(self):
        shelf, names = filled({"a": "", "b": "a", "c": "", "x": "a", "d": "cb"})
        self.assertEqual(all_before(shelf, names["d"]), [names[letter] for letter in "abcd"])
        self.assertIs(is_before(shelf, names["x"], names["d"]), False)
        self.assertIs(is_before(shelf, names["c"], names["d"]), True)
        self.assertIs(is_before(shelf, names["a"], names["d"]), True)

    def test_itself(self):
        shelf, names = filled({"a": "", "b": "a"})
        for name in names.values():
            self.assertIs(is_before(shelf, name, name), True)
            self.assertIn(name, all_before(shelf, name))

    def test_one_way_alone(self):
        shelf, names = filled({"a": "", "b": "a"})
        self.assertIs(is_before(shelf, names["a"], names["b"]), True)
        self.assertIs(is_before(shelf, names["b"], names["a"]), False)

    def test_the_stores_order(self):
        for shape in SHAPES:
            shelf, names = filled(shape)
            for store in (shelf, plain(shelf), shaken(shelf)):
                for letter in shape:
                    found = {names[other] for other in shape if lies_before(shape, other, letter)}
                    self.assertEqual(all_before(store, names[letter]),
                                     [name for name in store.names() if name in found])

    def test_as_the_document_tells(self):
        for shape in SHAPES:
            shelf, names = filled(shape)
            for one, other in itertools.product(shape, repeat=2):
                self.assertIs(is_before(shelf, names[one], names[other]), lies_before(shape, one, other))


class Meeting(unittest.TestCase):

    def need_meeting(self, shape, one, other, met):
        shelf, names = filled(shape)
        self.assertEqual(meeting_of(shelf, names[one], names[other]), [names[letter] for letter in met])
        self.assertEqual(meeting_of(shelf, names[other], names[one]), [names[letter] for letter in met])

    def test_nowhere(self):
        self.need_meeting({"a": "", "b": ""}, "a", "b", "")
        self.need_meeting({"a": "", "b": "", "c": "a", "d": "b"}, "c", "d", "")

    def test_at_one_place(self):
        self.need_meeting({"a": "", "b": "a", "c": "a"}, "b", "c", "a")
        self.need_meeting({"a": "", "b": "a", "c": "b", "d": "b"}, "c", "d", "b")
        self.need_meeting({"a": "", "b": "a", "c": "a", "d": "bc", "e": "b"}, "d", "e", "b")

    def test_at_two_places(self):
        self.need_meeting({"a": "", "b": "a", "c": "a", "d": "bc", "e": "cb"}, "d", "e", "bc")
        self.need_meeting({"a": "", "b": "", "c": "ab", "d": "ba"}, "c", "d", "ab")
        self.need_meeting({"a": "", "b": "", "c": "ba", "d": "ba", "e": "c", "f": "d"}, "e", "f", "ab")

    def test_a_place_that_lies_before_another_is_none(self):
        # Both come to a by ways of their own, but b is nearer.
        self.need_meeting({"a": "", "b": "a", "c": "ab", "d": "ba"}, "c", "d", "b")
        self.need_meeting({"a": "", "b": "a", "x": "b", "c": "ax", "d": "bx"}, "c", "d", "x")

    def test_one_before_the_other(self):
        self.need_meeting({"a": "", "b": "a", "c": "b"}, "a", "c", "a")
        self.need_meeting({"a": "", "b": "a", "c": "b"}, "b", "c", "b")
        self.need_meeting({"a": "", "b": "", "c": "ab"}, "b", "c", "b")

    def test_a_version_and_itself(self):
        for shape in SHAPES:
            for letter in shape:
                self.need_meeting(shape, letter, letter, letter)

    def test_as_the_document_tells(self):
        for shape in SHAPES:
            for one, other in itertools.product(shape, repeat=2):
                self.need_meeting(shape, one, other, told_meeting(shape, one, other))

    def test_the_stores_order(self):
        shape = {"a": "", "b": "", "c": "ab", "d": "ba"}
        shelf, names = filled(shape)
        rows = [(name, shelf.thing(name)) for name in shelf.names()]
        met = meeting_of(Base(rows), names["c"], names["d"])
        self.assertEqual(met, [names["a"], names["b"]])
        self.assertEqual(meeting_of(Base(rows[::-1]), names["c"], names["d"]), met[::-1])


class LongRows(unittest.TestCase):

    def test_a_long_row(self):
        shelf = Shelf(None)
        tree = shelf.put(("tree", ()))
        row = [shelf.put(("note", tree, (), ""))]
        for number in range(3000):
            row.append(shelf.put(("note", tree, (row[-1],), str(number))))
        side = shelf.put(("note", tree, (row[10],), "side"))
        self.assertEqual(all_before(shelf, row[-1]), row)
        self.assertIs(is_before(shelf, row[0], row[-1]), True)
        self.assertIs(is_before(shelf, side, row[-1]), False)
        self.assertEqual(meeting_of(shelf, row[-1], side), [row[10]])

    def test_many_ways_to_one_place(self):
        # Each step doubles the ways down; the versions are few.
        shelf = Shelf(None)
        tree = shelf.put(("tree", ()))
        pair = [shelf.put(("note", tree, (), word)) for word in "ab"]
        first = list(pair)
        for number in range(60):
            pair = [shelf.put(("note", tree, tuple(pair), str(number) + word)) for word in "ab"]
        self.assertEqual(len(all_before(shelf, pair[0])), 121)
        self.assertIs(is_before(shelf, first[0], pair[1]), True)
        self.assertEqual(len(meeting_of(shelf, pair[0], pair[1])), 2)


if __name__ == "__main__":
    unittest.main()
