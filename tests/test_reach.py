"""Promise P1, and annals.reach as the interface has it."""

import itertools
import unittest

from samples import SHAPES, Base, filled, no_names, plain, shaken, told_reached

from annals.errors import NoName
from annals.reach import reached
from annals.shelf import Shelf
from annals.trees import keep_files
from annals.versions import noted


class Reach(unittest.TestCase):

    def setUp(self):
        self.shelf = Shelf(None)
        self.leaf = self.shelf.put(("leaf", ("a",)))
        self.other = self.shelf.put(("leaf", ("b",)))
        self.inner = self.shelf.put(("tree", (("a", self.leaf),)))
        self.outer = self.shelf.put(("tree", (("a", self.inner), ("b", self.other))))
        self.empty = self.shelf.put(("tree", ()))
        self.first = self.shelf.put(("note", self.inner, (), "first"))
        self.second = self.shelf.put(("note", self.empty, (self.first,), "second"))
        self.beside = self.shelf.put(("note", self.outer, (), "beside"))
        self.third = self.shelf.put(("note", self.empty, (self.second, self.beside), "third"))

    def need_reached(self, roots, names):
        for store in (self.shelf, Shelf(self.shelf), plain(self.shelf)):
            told = reached(store, roots)
            self.assertEqual(told, names)
            self.assertIs(told.__class__, list)

    def test_a_leaf(self):
        self.need_reached([self.leaf], [self.leaf])
        self.need_reached([self.other], [self.other])

    def test_a_tree(self):
        self.need_reached([self.empty], [self.empty])
        self.need_reached([self.inner], [self.leaf, self.inner])
        self.need_reached([self.outer], [self.leaf, self.other, self.inner, self.outer])

    def test_a_note(self):
        self.need_reached([self.first], [self.leaf, self.inner, self.first])

    def test_parents(self):
        self.need_reached([self.second], [self.leaf, self.inner, self.empty, self.first, self.second])
        self.need_reached([self.third], self.shelf.names())

    def test_several_roots(self):
        self.need_reached([self.inner, self.other], [self.leaf, self.other, self.inner])
        self.need_reached([self.other, self.inner], [self.leaf, self.other, self.inner])
        self.need_reached([self.second, self.beside], self.shelf.names()[:-1])
        # One that another one leads to adds nothing.
        self.need_reached([self.leaf, self.first, self.inner], [self.leaf, self.inner, self.first])

    def test_a_root_twice(self):
        self.need_reached([self.leaf, self.leaf], [self.leaf])
        self.need_reached([self.inner, self.other, self.inner], [self.leaf, self.other, self.inner])

    def test_no_root(self):
        self.need_reached([], [])
        self.assertEqual(reached(Shelf(None), []), [])

    def test_all_names(self):
        self.need_reached(self.shelf.names(), self.shelf.names())
        self.need_reached(self.shelf.names()[::-1], self.shelf.names())

    def test_the_stores_order(self):
        store = Base([(name, self.shelf.thing(name)) for name in reversed(self.shelf.names())])
        self.assertEqual(reached(store, [self.second]),
                         [self.second, self.first, self.empty, self.inner, self.leaf])

    def test_as_the_document_tells(self):
        for shape in SHAPES:
            files = {letter: {"y/" + letter: (), "z": (letter,), letter: ("x",)} for letter in shape}
            shelf = filled(shape, files)[0]
            for store in (shelf, plain(shelf), shaken(shelf)):
                names = store.names()
                pairs = itertools.permutations(names[::5], 2)
                for roots in [[name] for name in names] + [list(pair) for pair in pairs]:
                    self.assertEqual(reached(store, roots), told_reached(store, roots))

    def test_what_is_put_later(self):
        roots = [self.second, self.other]
        told = reached(self.shelf, roots)
        kept = list(told)
        self.shelf.put(("note", self.outer, (self.second,), "later"))
        leaf = self.shelf.put(("leaf", ("later",)))
        self.assertEqual(told, kept)
        self.assertEqual(reached(self.shelf, roots), kept)
        self.need_reached([self.other, leaf], [self.other, leaf])

    def test_a_shelf_upon_another_one(self):
        upper = Shelf(self.shelf)
        leaf = upper.put(("leaf", ("later",)))
        tree = upper.put(("tree", (("a", leaf), ("b", self.inner))))
        self.assertEqual(reached(upper, [tree]), [self.leaf, self.inner, leaf, tree])

    def test_what_is_no_name(self):
        for store in (self.shelf, plain(self.shelf)):
            for wrong in no_names(self.shelf):
                for roots in ([wrong], [wrong, wrong], [self.third, wrong], [wrong, self.leaf],
                              [self.leaf, wrong, "x"]):
                    with self.assertRaises(NoName) as caught:
                        reached(store, roots)
                    self.assertIs(caught.exception.__class__, NoName)

    def test_a_name_of_another_store(self):
        for name in self.shelf.names():
            with self.assertRaises(NoName):
                reached(Shelf(None), [name])

    def test_what_is_handed_in_and_told(self):
        roots = [self.second, self.leaf, self.second]
        kept = list(roots)
        told = reached(self.shelf, roots)
        names = list(told)
        self.assertEqual(roots, kept)
        told.append("mine")
        roots.clear()
        self.assertEqual(reached(self.shelf, kept), names)

    def test_asking_puts_nothing(self):
        names = self.shelf.names()
        reached(self.shelf, names)
        self.assertEqual(self.shelf.names(), names)

    def test_a_long_row(self):
        shelf = Shelf(None)
        root = keep_files(shelf, {"f": ("a",)})
        row = [shelf.put(("note", root, (), ""))]
        for number in range(3000):
            row.append(noted(shelf, {"f": ("a",)}, [row[-1]], str(number)))
        self.assertEqual(reached(shelf, [row[-1]]), shelf.names())

    def test_many_ways_to_one_place(self):
        # Each tree doubles the ways down; the names are few.
        shelf = Shelf(None)
        name = shelf.put(("leaf", ()))
        for number in range(60):
            name = shelf.put(("tree", (("a", name), ("b", name))))
        self.assertEqual(reached(shelf, [name]), shelf.names())


if __name__ == "__main__":
    unittest.main()
