"""Promises 6.4 and 6.5, and annals.rows as the interface has it."""

import itertools
import unittest

from samples import (A, BOTH, HIGH, LOW, OTHER, SHAPES, AnnalsCase, Base, Model, begun, filled, grown, no_versions,
                     plain, shaken, state, told_way, unfolded)

from annals.errors import Clash, NoBranch, NoFit, NoVersion
from annals.moves import carried, join_heads
from annals.rows import carry_row, row_of
from annals.shelf import Shelf
from annals.versions import Annals, noted

# A row, and one beside it; d comes of a join.
ROW = {"a": "", "b": "a", "c": "b", "s": "a", "d": "cs", "e": "d", "t": ""}


def told_row(shape, low, high):
    """The row by the words of 6.4, None where it doesn't fit."""
    way = told_way(shape, high)
    if low is not None and low not in way:
        return None
    return way[:way.index(low)][::-1] if low is not None else way[::-1]


class Rows(AnnalsCase):

    def setUp(self):
        self.annals, self.names = grown(ROW)

    def need_row(self, low, high, row):
        names = self.names
        told = self.need_untouched(self.annals, lambda: row_of(self.annals.shelf, names.get(low), names[high]))
        self.assertEqual(told, [names[letter] for letter in row])
        self.assertIs(told.__class__, list)

    def need_no_fit(self, low, high):
        self.need_refused(self.annals, NoFit, lambda: row_of(self.annals.shelf, self.names[low], self.names[high]))

    def test_low_on_the_way(self):
        self.need_row("a", "b", "b")
        self.need_row("a", "c", "bc")
        self.need_row("b", "c", "c")
        self.need_row("a", "s", "s")

    def test_low_as_high(self):
        for letter in ROW:
            self.need_row(letter, letter, "")

    def test_low_none(self):
        self.need_row(None, "a", "a")
        self.need_row(None, "t", "t")
        self.need_row(None, "c", "abc")
        self.need_row(None, "e", "abcde")

    def test_two_parents(self):
        self.need_row("a", "e", "bcde")
        self.need_row("c", "d", "d")
        # A parent of a join, but not its first one.
        self.need_no_fit("s", "d")
        self.need_no_fit("s", "e")

    def test_low_beside_the_way(self):
        self.need_no_fit("s", "c")
        self.need_no_fit("b", "s")
        self.need_no_fit("t", "e")
        self.need_no_fit("a", "t")

    def test_low_behind_high(self):
        self.need_no_fit("b", "a")
        self.need_no_fit("e", "b")
        self.need_no_fit("d", "s")

    def test_as_the_document_tells(self):
        for shape in SHAPES + (ROW,):
            self.annals, self.names = grown(shape)
            for low, high in itertools.product([None] + list(shape), shape):
                row = told_row(shape, low, high)
                if row is None:
                    self.need_no_fit(low, high)
                else:
                    self.need_row(low, high, row)

    def test_of_any_store(self):
        shelf, names = filled(ROW)
        for store in (Shelf(shelf), plain(shelf), Shelf(plain(shelf)), shaken(shelf)):
            self.assertEqual(row_of(store, names["a"], names["e"]), [names[letter] for letter in "bcde"])
            with self.assertRaises(NoFit):
                row_of(store, names["s"], names["e"])

    def test_no_version(self):
        for wrong in no_versions(self.annals.shelf):
            for store in (self.annals.shelf, plain(self.annals.shelf)):
                for low in (None, self.names["a"], self.names["t"], wrong):
                    self.need_refused(self.annals, NoVersion, lambda: row_of(store, low, wrong))
                if wrong is not None:
                    # Ahead of NoFit: no such low could be on the way.
                    self.need_refused(self.annals, NoVersion, lambda: row_of(store, wrong, self.names["e"]))

    def test_a_version_of_another_store(self):
        with self.assertRaises(NoVersion):
            row_of(Shelf(None), None, self.names["a"])
        with self.assertRaises(NoVersion):
            row_of(Base([]), self.names["a"], self.names["a"])

    def test_the_askers_own(self):
        for low, row in ((None, "abc"), ("a", "bc"), ("c", "")):
            told = row_of(self.annals.shelf, self.names.get(low), self.names["c"])
            told.append("mine")
            self.need_row(low, "c", row)

    def test_a_long_row(self):
        annals = Annals()
        annals.begin("main", None)
        row = [annals.keep("main", {}, str(number)) for number in range(3000)]
        self.assertEqual(row_of(annals.shelf, None, row[-1]), row)
        self.assertEqual(row_of(annals.shelf, row[0], row[-1]), row[1:])
        with self.assertRaises(NoFit):
            row_of(annals.shelf, row[-1], row[0])


FILES = {
    "a": {"f": A, "g": A},
    "b": {"f": A, "g": A, "b": ("b",)},
    "c": {"f": LOW, "g": A, "b": ("b",)},
    "s": {"f": HIGH, "g": A},
    "d": {"f": LOW, "b": ("b",)},
    "e": {"f": LOW, "b": ("b", "e")},
    "t": {"t": ()},
}


class CarryCase(AnnalsCase):

    def need_carried(self, annals, branch, low, onto, rows):
        """Each of the row by its files and words, or by None where it became what it was carried onto."""
        kept = state(annals)
        told = carry_row(annals, branch, low, onto)
        self.assertIs(told.__class__, list)
        self.assertEqual(len(told), len(rows))
        last = onto
        for version, row in zip(told, rows):
            if row is None:
                self.assertEqual(version, last)
            else:
                files, words = row
                self.assertEqual(unfolded(annals.shelf, version), (files, (unfolded(annals.shelf, last),), words))
                self.assertEqual(annals.shelf.thing(version)[2], (last,))
            last = version
        heads = dict(kept[0])
        heads[branch] = last
        self.assertEqual(annals.branches(), sorted(heads.items()))
        self.assertEqual(state(annals)[1][:len(kept[1])], kept[1])
        return told


class Carried(CarryCase):

    def test_a_row_of_none(self):
        annals, names = begun(ROW, FILES, {"main": "c", "side": "s"})
        told = annals.shelf.names()
        self.need_carried(annals, "main", names["c"], names["s"], [])
        self.assertEqual(annals.branches(), [("main", names["s"]), ("side", names["s"])])
        self.assertEqual(annals.shelf.names(), told)
        # Onto the version at which it is, too.
        self.assertEqual(self.need_untouched(annals, lambda: carry_row(annals, "main", names["s"], names["s"])), [])

    def test_a_row_of_one(self):
        annals, names = begun(ROW, FILES, {"main": "c", "side": "s", "none": ""})
        self.need_carried(annals, "main", names["b"], names["s"], [({"f": BOTH, "g": A}, "c")])

    def test_a_row_of_several(self):
        annals, names = begun(ROW, FILES, {"main": "c", "side": "s"})
        self.need_carried(annals, "main", names["a"], names["s"],
                          [({"b": ("b",), "f": HIGH, "g": A}, "b"), ({"b": ("b",), "f": BOTH, "g": A}, "c")])

    def test_a_join_on_the_way(self):
        # The join is carried by its first parent: what it left out is left out.
        annals, names = begun(ROW, FILES, {"main": "e"})
        self.need_carried(annals, "main", names["a"], names["s"],
                          [({"b": ("b",), "f": HIGH, "g": A}, "b"), ({"b": ("b",), "f": BOTH, "g": A}, "c"),
                           ({"b": ("b",), "f": BOTH}, "d"), ({"b": ("b", "e"), "f": BOTH}, "e")])

    def test_low_none(self):
        annals, names = begun(ROW, FILES, {"main": "b"})
        self.need_carried(annals, "main", None, names["t"],
                          [({"f": A, "g": A, "t": ()}, "a"), ({"b": ("b",), "f": A, "g": A, "t": ()}, "b")])

    def test_onto_low(self):
        annals, names = begun(ROW, FILES, {"main": "c"})
        told = self.need_untouched(annals, lambda: carry_row(annals, "main", names["a"], names["a"]))
        self.assertEqual(told, [names["b"], names["c"]])

    def test_onto_a_version_of_the_row(self):
        # b is there already, so nothing is left of it.
        annals, names = begun(ROW, FILES, {"main": "c"})
        told = self.need_untouched(annals, lambda: carry_row(annals, "main", names["a"], names["b"]))
        self.assertEqual(told, [names["b"], names["c"]])

    def test_onto_a_version_of_its_own_way(self):
        annals, names = begun(ROW, FILES, {"main": "c"})
        self.need_carried(annals, "main", names["b"], names["a"], [({"f": LOW, "g": A}, "c")])

    def test_some_that_leave_nothing(self):
        shape = {"a": "", "b": "a", "c": "b", "d": "c", "e": "d", "s": "a"}
        files = {"a": {"f": A}, "b": {"f": LOW}, "c": {"f": LOW, "g": A}, "d": {"f": LOW, "g": A},
                 "e": {"f": A, "g": A}, "s": {"f": LOW, "h": A}}
        annals, names = begun(shape, files, {"main": "e"})
        self.need_carried(annals, "main", names["a"], names["s"],
                          [None, ({"f": LOW, "g": A, "h": A}, "c"), None, ({"f": A, "g": A, "h": A}, "e")])

    def test_all_that_leave_nothing(self):
        shape = {"a": "", "b": "a", "c": "b", "s": "a"}
        files = {"a": {"f": A}, "b": {"f": LOW}, "c": {"f": LOW, "g": A}, "s": {"f": LOW, "g": A}}
        annals, names = begun(shape, files, {"main": "c"})
        told = annals.shelf.names()
        self.need_carried(annals, "main", names["a"], names["s"], [None, None])
        self.assertEqual(annals.head("main"), names["s"])
        self.assertEqual(annals.shelf.names(), told)

    def test_each_by_its_own_first_parent(self):
        # The second one takes back what the first one did; by what came of
        # the first one as its base the line would stay.
        shape = {"a": "", "b": "a", "c": "b", "s": "a"}
        files = {"a": {"f": A}, "b": {"f": LOW}, "c": {"f": A}, "s": {"f": HIGH}}
        annals, names = begun(shape, files, {"main": "c"})
        self.need_carried(annals, "main", names["a"], names["s"], [({"f": BOTH}, "b"), ({"f": HIGH}, "c")])

    def test_one_by_one_as_by_themselves(self):
        annals, names = begun(ROW, FILES, {"main": "e"})
        other, names = begun(ROW, FILES, {"main": "e"})
        told = carry_row(annals, "main", names["a"], names["s"])
        last = names["s"]
        for letter, version in zip("bcde", told):
            last = carried(other, names[letter], last)
            self.assertEqual(last, version)
        self.assertEqual(annals.shelf.names(), other.shelf.names())

    def test_carried_again(self):
        annals, names = begun(ROW, FILES, {"main": "c", "again": "c", "side": "s"})
        told = carry_row(annals, "main", names["a"], names["s"])
        put = annals.shelf.names()
        self.assertEqual(carry_row(annals, "again", names["a"], names["s"]), told)
        self.assertEqual(annals.head("again"), annals.head("main"))
        self.assertEqual(annals.shelf.names(), put)
        self.assertEqual(join_heads(annals, "side", "main"), "moved")

    def test_the_askers_own(self):
        annals, names = begun(ROW, FILES, {"main": "c", "again": "c"})
        told = carry_row(annals, "main", names["a"], names["s"])
        kept = list(told)
        told.clear()
        other = carry_row(annals, "again", names["a"], names["s"])
        self.assertEqual(other, kept)
        annals.keep("main", {}, "later")
        self.assertEqual(other, kept)

    def test_a_long_row(self):
        annals = Annals()
        annals.begin("main", None)
        first = annals.keep("main", {"f": A}, "first")
        for number in range(600):
            annals.keep("main", {"f": A, "g": (str(number),)}, "w")
        onto = noted(annals.shelf, {"f": HIGH}, [first], "side")
        told = carry_row(annals, "main", first, onto)
        self.assertEqual(len(told), 600)
        self.assertEqual(annals.files(annals.head("main")), {"f": HIGH, "g": ("599",)})

    def test_upon_another_shelf(self):
        annals, names = begun(ROW, FILES, {"main": "c"})
        old = annals.shelf
        kept = old.names()
        annals.stand_on(Shelf(plain(old)))
        self.need_carried(annals, "main", names["b"], names["s"], [({"f": BOTH, "g": A}, "c")])
        self.assertEqual(old.names(), kept)

    def test_two_annals(self):
        one, names = begun(ROW, FILES, {"main": "c"})
        other, names = begun(ROW, FILES, {"main": "c"})
        self.need_untouched(other, lambda: carry_row(one, "main", names["a"], names["s"]))


class Refused(CarryCase):

    def test_a_clash_at_the_first_one(self):
        shape = {"a": "", "b": "a", "c": "b", "s": "a"}
        files = {"a": {"f": A}, "b": {"f": LOW}, "c": {"f": LOW, "g": A}, "s": {"f": OTHER}}
        annals, names = begun(shape, files, {"main": "c", "side": "s"})
        self.need_refused(annals, Clash, lambda: carry_row(annals, "main", names["a"], names["s"]))

    def test_a_clash_at_a_later_one(self):
        shape = {"a": "", "b": "a", "c": "b", "d": "c", "e": "d", "s": "a"}
        files = {"a": {"f": A}, "b": {"f": A, "b": A}, "c": {"f": A, "b": LOW}, "d": {"f": LOW, "b": LOW},
                 "e": {"f": LOW}, "s": {"f": OTHER}}
        annals, names = begun(shape, files, {"main": "e", "side": "s"})
        other = Annals()
        other.stand_on(Shelf(annals.shelf))
        branches = annals.branches()
        with self.assertRaises(Clash) as caught:
            carry_row(annals, "main", names["a"], names["s"])
        self.assertIs(caught.exception.__class__, Clash)
        # The branch stays, and so does what came of those ahead, with nothing of the others beside it.
        self.assertEqual(annals.branches(), branches)
        second = carried(other, names["c"], carried(other, names["b"], names["s"]))
        self.assertEqual(annals.shelf.names(), other.shelf.names())
        self.assertEqual(annals.files(second), {"b": LOW, "f": OTHER})
        # Again it is refused, and puts nothing any more.
        self.need_refused(annals, Clash, lambda: carry_row(annals, "main", names["a"], names["s"]))

    def test_order(self):
        files = {"a": {"f": A}, "b": {"f": LOW}, "s": {"f": OTHER}}
        annals, names = begun({"a": "", "b": "a", "s": ""}, files, {"main": "b", "none": ""})
        good = names["s"]
        for wrong in no_versions(annals.shelf):
            for low, onto in ((names["a"], wrong), (names["s"], wrong), (None, wrong), (wrong, wrong), (wrong, good)):
                self.need_refused(annals, NoBranch, lambda: carry_row(annals, "other", low, onto))
                # None is let by as low alone.
                if low is not None or onto is not good:
                    self.need_refused(annals, NoVersion, lambda: carry_row(annals, "main", low, onto))
                    # Ahead of what doesn't fit with a branch at nothing.
                    self.need_refused(annals, NoVersion, lambda: carry_row(annals, "none", low, onto))
        for low in (None, names["a"], names["s"]):
            self.need_refused(annals, NoBranch, lambda: carry_row(annals, "other", low, good))
            self.need_refused(annals, NoFit, lambda: carry_row(annals, "none", low, good))
        # Ahead of a clash: s is not on the way, and b would clash.
        self.need_refused(annals, NoFit, lambda: carry_row(annals, "main", good, good))
        self.need_refused(annals, Clash, lambda: carry_row(annals, "main", names["a"], good))

    def test_low_beside_or_behind(self):
        annals, names = begun(ROW, FILES, {"main": "c", "join": "d"})
        for branch, low in (("main", "s"), ("main", "d"), ("main", "t"), ("join", "s"), ("join", "e")):
            for onto in ROW:
                self.need_refused(annals, NoFit, lambda: carry_row(annals, branch, names[low], names[onto]))

    def test_a_branch_at_nothing(self):
        annals, names = begun(ROW, FILES, {"none": "", "main": "c"})
        for low in [None] + list(names.values()):
            self.need_refused(annals, NoFit, lambda: carry_row(annals, "none", low, names["s"]))


def done(annals, step):
    """A step done to annals, and the word for what came of it."""
    try:
        if step[0] == "keep":
            annals.keep(*step[1:])
            return "kept"
        if step[0] == "join":
            return join_heads(annals, *step[1:])
        carry_row(annals, step[1], None, annals.head(step[2]))
        return "carried"
    except NoVersion:
        return "no version"
    except NoFit:
        return "no fit"
    except Clash:
        return "clash"


STEPS = (
    ("keep", "one", {"f": A}, "w"),
    ("keep", "one", {"f": LOW}, "w"),
    ("keep", "two", {"f": HIGH}, "v"),
    ("keep", "two", {"f": A, "g": ()}, "w"),
    ("join", "one", "two"),
    ("join", "two", "one"),
    ("carry", "one", "two"),
    ("carry", "two", "one"),
)


class Steps(unittest.TestCase):

    def need_as_told(self, ahead, count):
        for behind in itertools.product(STEPS, repeat=count):
            steps = ahead + behind
            annals = Annals()
            model = Model({"one": None, "two": None})
            for label in model.heads:
                annals.begin(label, None)
            told = [done(annals, step) for step in steps]
            self.assertEqual(told, [getattr(model, step[0])(*step[1:]) for step in steps], steps)
            notes = [name for name in annals.shelf.names() if annals.shelf.thing(name)[0] == "note"]
            versions = {name: unfolded(annals.shelf, name) for name in notes}
            self.assertEqual(list(versions.values()), model.kept, steps)
            self.assertEqual({label: versions.get(head) for label, head in annals.branches()}, model.heads, steps)

    def test_from_nothing(self):
        self.need_as_told((), 4)

    def test_from_one_version(self):
        self.need_as_told((STEPS[0], STEPS[5]), 5)


if __name__ == "__main__":
    unittest.main()
