"""Promises T5 to T7, and annals.shelf as the interface has it."""

import unittest

from samples import GOOD_LEAVES, NO_TEXTS, NO_THINGS, Base

from annals.errors import NoName, NoThing
from annals.shelf import Shelf
from annals.things import digest

EMPTY_LEAF = ("leaf", ())
EMPTY_TREE = ("tree", ())
LEAF_A = ("leaf", ("a",))
# These two have the digest of LEAF_A.
LEAF_AM = ("leaf", ("am",))
LEAF_DQ = ("leaf", ("dq",))


def filled():
    """A shelf with a leaf, a tree with a row, one without, and two notes."""
    shelf = Shelf(None)
    for thing in (EMPTY_LEAF, EMPTY_TREE, ("tree", (("a", "L76.0"),)),
                  ("note", "T84.0", (), ""), ("note", "T84.0", (), "bt")):
        shelf.put(thing)
    return shelf


FILLED_NAMES = ["L76.0", "T84.0", "T31.0", "N85.0", "N85.1"]


class Names(unittest.TestCase):

    def test_a_new_shelf_has_none(self):
        shelf = Shelf(None)
        self.assertEqual(shelf.names(), [])
        self.assertIs(shelf.has("L76.0"), False)

    def test_the_first_of_each_form(self):
        shelf = Shelf(None)
        self.assertEqual(shelf.put(EMPTY_LEAF), "L76.0")
        self.assertEqual(shelf.put(EMPTY_TREE), "T84.0")
        self.assertEqual(shelf.put(("tree", (("a", "L76.0"), ("b", "T84.0")))), "T21.0")
        self.assertEqual(shelf.put(("note", "T84.0", (), "")), "N85.0")
        self.assertEqual(shelf.put(("note", "T84.0", ("N85.0",), "x")), "N93.0")
        self.assertEqual(shelf.put(("note", "T21.0", ("N93.0", "N85.0"), "x")), "N69.0")
        self.assertEqual(shelf.names(), ["L76.0", "T84.0", "T21.0", "N85.0", "N93.0", "N69.0"])

    def test_numbers_count_on_where_letter_and_digest_are_alike(self):
        shelf = Shelf(None)
        self.assertEqual([shelf.put(leaf) for leaf in (LEAF_AM, LEAF_A, LEAF_DQ)], ["L38.0", "L38.1", "L38.2"])
        self.assertEqual(filled().names(), FILLED_NAMES)
        self.assertEqual(filled().put(("tree", (("bl", "L76.0"),))), "T31.1")

    def test_numbers_count_by_letter_and_digest_together(self):
        leaf = ("leaf", ("fa",))
        self.assertEqual(digest(leaf), digest(EMPTY_TREE))
        shelf = Shelf(None)
        self.assertEqual(shelf.put(EMPTY_TREE), "T84.0")
        self.assertEqual(shelf.put(leaf), "L84.0")

    def test_numbers_count_on_beyond_nine(self):
        shelf = Shelf(None)
        letters = "abcdefghijklmnopqrstuvwxyz"
        leaves = [("leaf", (one, other)) for one in letters for other in letters + letters.upper()]
        leaves = [leaf for leaf in leaves if digest(leaf) == 38][:12]
        self.assertEqual([shelf.put(leaf) for leaf in leaves], ["L38." + str(number) for number in range(12)])

    def test_a_thing_that_is_there_keeps_its_name(self):
        shelf = filled()
        self.assertEqual(shelf.put(("leaf", tuple([]))), "L76.0")
        self.assertEqual(shelf.put(("tree", (("a", "L76.0"),))), "T31.0")
        self.assertEqual(shelf.put(("note", "T84.0", (), "bt")), "N85.1")
        self.assertEqual(shelf.names(), FILLED_NAMES)
        self.assertEqual(shelf.put(("leaf", ("bt",))), "L76.1")

    def test_a_thing_put_again_takes_no_number(self):
        shelf = Shelf(None)
        for leaf in (LEAF_A, LEAF_A, LEAF_AM, LEAF_A, LEAF_AM):
            shelf.put(leaf)
        self.assertEqual(shelf.put(LEAF_DQ), "L38.2")

    def test_shelves_filled_in_other_orders(self):
        one = Shelf(None)
        other = Shelf(None)
        self.assertEqual([one.put(LEAF_A), one.put(LEAF_AM)], ["L38.0", "L38.1"])
        self.assertEqual([other.put(LEAF_AM), other.put(LEAF_A)], ["L38.0", "L38.1"])
        self.assertEqual(one.thing("L38.0"), LEAF_A)
        self.assertEqual(other.thing("L38.0"), LEAF_AM)

    def test_names_read_as_what_was_put(self):
        shelf = Shelf(None)
        put = [(shelf.put(leaf), leaf) for leaf in GOOD_LEAVES]
        for name, leaf in put:
            with self.subTest(name):
                self.assertIs(shelf.has(name), True)
                self.assertEqual(shelf.thing(name), leaf)
        self.assertEqual(shelf.names(), [name for name, leaf in put])

    def test_the_list_of_names_is_the_askers_own(self):
        shelf = filled()
        told = shelf.names()
        told.append("L38.0")
        told.reverse()
        self.assertEqual(shelf.names(), FILLED_NAMES)
        self.assertIs(shelf.has("L38.0"), False)
        self.assertEqual(shelf.put(LEAF_A), "L38.0")
        early = shelf.names()
        shelf.put(LEAF_AM)
        self.assertEqual(early, FILLED_NAMES + ["L38.0"])


class Bases(unittest.TestCase):

    def test_what_the_base_has_the_shelf_has(self):
        base = filled()
        shelf = Shelf(base)
        self.assertEqual(shelf.names(), FILLED_NAMES)
        for name in FILLED_NAMES:
            with self.subTest(name):
                self.assertIs(shelf.has(name), True)
                self.assertEqual(shelf.thing(name), base.thing(name))

    def test_own_names_come_behind_those_of_the_base(self):
        shelf = Shelf(filled())
        shelf.put(LEAF_A)
        shelf.put(EMPTY_LEAF)
        shelf.put(("leaf", ("",)))
        self.assertEqual(shelf.names(), FILLED_NAMES + ["L38.0", shelf.put(("leaf", ("",)))])

    def test_nothing_is_put_into_the_base(self):
        base = filled()
        shelf = Shelf(base)
        shelf.put(LEAF_A)
        told = shelf.names()
        told.clear()
        self.assertEqual(base.names(), FILLED_NAMES)
        self.assertIs(base.has("L38.0"), False)
        self.assertEqual(shelf.names(), FILLED_NAMES + ["L38.0"])

    def test_two_shelves_upon_one_base(self):
        base = filled()
        one = Shelf(base)
        other = Shelf(base)
        self.assertEqual(one.put(LEAF_A), "L38.0")
        self.assertIs(other.has("L38.0"), False)
        self.assertEqual(other.put(LEAF_AM), "L38.0")
        self.assertEqual(one.thing("L38.0"), LEAF_A)

    def test_a_thing_of_the_base_keeps_its_name(self):
        shelf = Shelf(filled())
        self.assertEqual(shelf.put(EMPTY_LEAF), "L76.0")
        self.assertEqual(shelf.put(("note", "T84.0", (), "bt")), "N85.1")
        self.assertEqual(shelf.names(), FILLED_NAMES)

    def test_numbers_count_on_from_the_base(self):
        shelf = Shelf(filled())
        self.assertEqual(shelf.put(("leaf", ("bt",))), "L76.1")
        self.assertEqual(shelf.put(("tree", (("bl", "L76.0"),))), "T31.1")
        self.assertEqual(shelf.put(("note", "T84.0", (), "ex")), "N85.2")

    def test_things_may_name_what_is_in_the_base(self):
        shelf = Shelf(filled())
        self.assertEqual(shelf.put(("note", "T84.0", ("N85.0",), "x")), "N93.0")
        with self.assertRaises(NoName):
            shelf.put(("note", "T84.0", ("T84.0",), "x"))

    def test_a_base_with_the_three_methods_will_do(self):
        shelf = Shelf(Base([("L38.0", LEAF_A), ("T84.0", EMPTY_TREE)]))
        self.assertEqual(shelf.put(LEAF_A), "L38.0")
        self.assertEqual(shelf.put(LEAF_AM), "L38.1")
        self.assertEqual(shelf.thing("T84.0"), EMPTY_TREE)
        self.assertIs(shelf.has("L38.2"), False)
        self.assertIs(shelf.has([]), False)
        self.assertEqual(shelf.names(), ["L38.0", "T84.0", "L38.1"])

    def test_the_number_is_beyond_the_greatest_of_a_base_with_gaps(self):
        shelf = Shelf(Base([("L38.10", LEAF_A), ("L38.9", LEAF_AM)]))
        self.assertEqual(shelf.put(LEAF_DQ), "L38.11")
        self.assertEqual(shelf.put(LEAF_AM), "L38.9")
        self.assertEqual(shelf.names(), ["L38.10", "L38.9", "L38.11"])

    def test_digests_of_which_one_begins_with_the_other(self):
        # Of digest 3, where the base has a name of digest 38.
        leaf = ("leaf", ("cm",))
        self.assertEqual(digest(leaf), 3)
        shelf = Shelf(Base([("L38.4", LEAF_A)]))
        self.assertEqual(shelf.put(leaf), "L3.0")

    def test_a_base_without_names(self):
        shelf = Shelf(Shelf(None))
        self.assertEqual(shelf.names(), [])
        self.assertEqual(shelf.put(LEAF_A), "L38.0")

    def test_a_long_row_of_bases(self):
        shelf = Shelf(None)
        shelf.put(LEAF_A)
        for step in range(2000):
            shelf = Shelf(shelf)
        self.assertEqual(shelf.thing("L38.0"), LEAF_A)
        self.assertIs(shelf.has("L38.1"), False)
        self.assertEqual(shelf.put(LEAF_A), "L38.0")
        self.assertEqual(shelf.put(LEAF_AM), "L38.1")
        self.assertEqual(shelf.names(), ["L38.0", "L38.1"])


class Refusals(unittest.TestCase):

    def need_refused(self, shelf, thing, error):
        before = shelf.names()
        with self.assertRaises(error) as caught:
            shelf.put(thing)
        self.assertIs(caught.exception.__class__, error)
        self.assertEqual(shelf.names(), before)
        for name in before:
            self.assertIs(shelf.has(name), True)

    def test_what_is_no_thing(self):
        shelf = filled()
        for place, thing in enumerate(NO_THINGS):
            with self.subTest(place=place):
                self.need_refused(shelf, thing, NoThing)

    def test_no_thing_comes_ahead_of_no_name(self):
        for thing in (("tree", (("b", "L0.7"), ("a", "L76.0"))),
                      ("tree", (("a", "L0.7"), ("b", 1))),
                      ("note", "T0.7", (), "a\n"),
                      ("note", "T0.7", ("N0.7", "N0.7"), "x"),
                      ("note", "L76.0", ("N85.0",) * 3, "x")):
            with self.subTest(thing):
                self.need_refused(filled(), thing, NoThing)

    def test_trees_with_a_name_that_is_missing_or_of_another_form(self):
        for wrong in ("L0.7", "L76.1", "L76", "T84", "", "no name", "N85.0", "N85.1"):
            for rows in ((("a", wrong),), (("a", "L76.0"), ("b", wrong)), (("a", wrong), ("b", "T84.0"))):
                with self.subTest(rows):
                    self.need_refused(filled(), ("tree", rows), NoName)

    def test_trees_with_leaves_and_trees_are_let_by(self):
        shelf = filled()
        name = shelf.put(("tree", (("a", "L76.0"), ("b", "T84.0"), ("c", "T31.0"), ("d", "L76.0"))))
        self.assertEqual(shelf.names(), FILLED_NAMES + [name])

    def test_notes_with_a_tree_that_is_missing_or_of_another_form(self):
        for wrong in ("T0.7", "T84.1", "T84", "", "no name", "L76.0", "N85.0"):
            for parents in ((), ("N85.0",), ("N85.0", "N85.1")):
                with self.subTest(wrong=wrong, parents=parents):
                    self.need_refused(filled(), ("note", wrong, parents, "x"), NoName)

    def test_notes_with_a_parent_that_is_missing_or_of_another_form(self):
        for wrong in ("N0.7", "N85.2", "N85", "", "no name", "L76.0", "T84.0"):
            for parents in ((wrong,), (wrong, "N85.0"), ("N85.0", wrong)):
                with self.subTest(parents):
                    self.need_refused(filled(), ("note", "T84.0", parents, "x"), NoName)

    def test_a_thing_cannot_name_itself(self):
        self.need_refused(Shelf(None), ("tree", (("a", "T62.0"),)), NoName)

    def test_a_refusal_takes_no_number(self):
        shelf = filled()
        self.need_refused(shelf, ("note", "T84.0", ("N0.7",), "x"), NoName)
        self.need_refused(shelf, ("leaf", ["a"]), NoThing)
        self.assertEqual(shelf.put(LEAF_A), "L38.0")
        self.assertEqual(shelf.put(("note", "T84.0", ("N85.0",), "x")), "N93.0")

    def test_refused_upon_a_base(self):
        base = filled()
        shelf = Shelf(base)
        self.need_refused(shelf, ("tree", (("a", "N85.0"),)), NoName)
        self.need_refused(shelf, ("tree", (("a", "L0.7"),)), NoName)
        self.need_refused(shelf, ("tree", [("a", "L76.0")]), NoThing)
        self.assertEqual(base.names(), FILLED_NAMES)

    def test_names_of_another_shelf_are_none(self):
        other = filled()
        other.put(LEAF_A)
        self.need_refused(filled(), ("tree", (("a", "L38.0"),)), NoName)


class Asking(unittest.TestCase):

    def test_has_of_anything(self):
        for shelf in (Shelf(None), filled(), Shelf(filled()), Shelf(Base([("L38.0", LEAF_A)]))):
            for thing in NO_TEXTS + ("", "L76", "L76.00", "L76.1", "l76.0", " L76.0", "T76.0", LEAF_A, (["a"],)):
                with self.subTest(kind=str(thing.__class__)):
                    self.assertIs(shelf.has(thing), False)

    def test_thing_of_anything(self):
        for shelf in (Shelf(None), filled(), Shelf(filled()), Shelf(Base([("L38.0", LEAF_A)]))):
            for thing in NO_TEXTS + ("", "L76", "L76.00", "L76.1", "l76.0", " L76.0", "T76.0", LEAF_A, (["a"],)):
                with self.subTest(kind=str(thing.__class__)):
                    with self.assertRaises(NoName):
                        shelf.thing(thing)

    def test_asking_adds_nothing(self):
        shelf = filled()
        shelf.has("L38.0")
        with self.assertRaises(NoName):
            shelf.thing("L38.0")
        self.assertEqual(shelf.names(), FILLED_NAMES)


if __name__ == "__main__":
    unittest.main()
