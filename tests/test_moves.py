"""Promises 6.1 to 6.3, and annals.moves as the interface has it."""

import copy
import itertools
import unittest

from samples import (A, BOTH, HIGH, LOW, OTHER, SHAPES, AnnalsCase, Base, begun, families, grown, no_versions, plain,
                     shaken, state, told_meeting, unfolded)

from annals.errors import Clash, NoBranch, NoVersion
from annals.moves import base_of, carried, clashes_of, join_heads
from annals.shelf import Shelf
from annals.sides import joined_files
from annals.things import digest
from annals.versions import Annals, noted

# Some files for each letter of the shapes; some of them clash, some don't.
BY_LETTER = {
    "a": {"f": A, "g/h": A},
    "b": {"f": LOW, "g/h": A, "i": ()},
    "c": {"f": HIGH, "g/h": A},
    "d": {"f": BOTH, "g": A},
    "e": {"f": OTHER, "g/h": (), "i": A},
    "f": {},
    "g": {"f": A, "g/h": HIGH, "g/i": A},
    "h": {"f": HIGH, "g/h/i": A, "j": ()},
}

# d and e come of both b and c, each by a way of its own.
ACROSS = {"a": "", "b": "a", "c": "a", "d": "bc", "e": "cb"}


class BaseFiles(AnnalsCase):

    def need_base(self, shape, one, other, files):
        annals, names = grown(shape, BY_LETTER)
        for low, high in ((one, other), (other, one)):
            told = self.need_untouched(annals, lambda: base_of(annals.shelf, names[low], names[high]))
            self.assertEqual(told, files)
            self.assertIs(told.__class__, dict)

    def test_nowhere(self):
        self.need_base({"a": "", "b": ""}, "a", "b", {})
        self.need_base({"a": "", "b": "", "c": "a", "d": "b"}, "c", "d", {})

    def test_at_one_place(self):
        self.need_base({"a": "", "b": "a", "c": "a"}, "b", "c", BY_LETTER["a"])
        self.need_base({"a": "", "b": "a", "c": "b", "d": "b"}, "c", "d", BY_LETTER["b"])
        self.need_base({"a": "", "b": "a", "c": "ab", "d": "ba"}, "c", "d", BY_LETTER["b"])

    def test_at_two_places(self):
        self.need_base(ACROSS, "d", "e", BY_LETTER["b"])
        self.need_base({"a": "", "c": "a", "b": "a", "d": "bc", "e": "cb"}, "d", "e", BY_LETTER["c"])
        self.need_base({"a": "", "b": "", "c": "ba", "d": "ba"}, "c", "d", BY_LETTER["a"])

    def test_one_before_the_other(self):
        self.need_base({"a": "", "b": "a", "c": "b"}, "b", "c", BY_LETTER["b"])
        self.need_base({"a": "", "b": "", "c": "ab"}, "b", "c", BY_LETTER["b"])

    def test_a_version_and_itself(self):
        self.need_base({"a": "", "b": "a"}, "b", "b", BY_LETTER["b"])

    def test_as_the_document_tells(self):
        for shape in SHAPES:
            for one, other in itertools.product(shape, repeat=2):
                met = told_meeting(shape, one, other)
                self.need_base(shape, one, other, BY_LETTER[met[0]] if met else {})

    def test_the_stores_order(self):
        annals, names = grown(ACROSS, BY_LETTER)
        rows = state(annals)[1]
        for store, files in ((Base(rows), BY_LETTER["b"]), (Base(rows[::-1]), BY_LETTER["c"])):
            self.assertEqual(base_of(store, names["d"], names["e"]), files)
            self.assertEqual(base_of(store, names["e"], names["d"]), files)

    def test_the_askers_own(self):
        annals, names = grown({"a": "", "b": "a", "c": "a", "d": ""}, BY_LETTER)
        for other, files in (("c", BY_LETTER["a"]), ("d", {})):
            told = base_of(annals.shelf, names["b"], names[other])
            told["mine"] = ()
            self.assertEqual(base_of(annals.shelf, names["b"], names[other]), files)


class Clashes(AnnalsCase):

    def need_clashes(self, files, clashes):
        """Two versions of the files of b and c, which came of a's."""
        annals, names = grown({"a": "", "b": "a", "c": "a"}, files)
        told = self.need_untouched(annals, lambda: clashes_of(annals.shelf, names["b"], names["c"]))
        self.assertEqual(told, clashes)
        self.assertIs(told.__class__, list)
        turned = [(path, base, yours, mine) for path, base, mine, yours in clashes]
        self.assertEqual(clashes_of(annals.shelf, names["c"], names["b"]), turned)

    def test_none(self):
        self.need_clashes({"a": {"f": A}, "b": {"f": LOW}, "c": {"f": HIGH}}, [])
        self.need_clashes({"a": {"f": A}, "b": {"f": LOW}, "c": {"f": LOW}}, [])
        self.need_clashes({"a": {"f": A}, "b": {}, "c": {"f": A, "g": A}}, [])

    def test_rising_paths(self):
        self.need_clashes({"a": {"g": A, "f": A, "b/c": A, "ok": A}, "b": {"g": LOW, "f": LOW, "b/c": LOW, "ok": LOW},
                           "c": {"f": OTHER, "b/c": OTHER, "ok": HIGH}},
                          [("b/c", A, LOW, OTHER), ("f", A, LOW, OTHER), ("g", A, LOW, None)])

    def test_a_folder_in_the_way(self):
        self.need_clashes({"b": {"f": A}, "c": {"f/g": A}}, [("f", None, A, None), ("f/g", None, None, A)])

    def test_a_base_of_no_files(self):
        annals, names = grown({"a": "", "b": ""}, {"a": {"f": A, "g": A}, "b": {"f": LOW, "g": A}})
        self.assertEqual(clashes_of(annals.shelf, names["a"], names["b"]), [("f", None, A, LOW)])

    def test_the_base_is_the_first_place(self):
        # By b's files nothing clashes; by c's, f does.
        files = {"b": {"f": A}, "c": {"f": OTHER}, "d": {"f": LOW}, "e": {"f": A}}
        annals, names = grown(ACROSS, files)
        rows = state(annals)[1]
        self.assertEqual(clashes_of(Base(rows), names["d"], names["e"]), [])
        self.assertEqual(clashes_of(Base(rows), names["e"], names["d"]), [])
        self.assertEqual(clashes_of(Base(rows[::-1]), names["d"], names["e"]), [("f", OTHER, LOW, A)])
        self.assertEqual(clashes_of(Base(rows[::-1]), names["e"], names["d"]), [("f", OTHER, A, LOW)])

    def test_one_before_the_other(self):
        annals, names = grown({"a": "", "b": "a", "c": "b"}, BY_LETTER)
        for one, other in itertools.product("abc", repeat=2):
            self.assertEqual(clashes_of(annals.shelf, names[one], names[other]), [])

    def test_as_the_document_tells(self):
        for shape in SHAPES:
            annals, names = grown(shape, BY_LETTER)
            for one, other in itertools.product(shape, repeat=2):
                met = told_meeting(shape, one, other)
                base = BY_LETTER[met[0]] if met else {}
                self.assertEqual(clashes_of(annals.shelf, names[one], names[other]),
                                 joined_files(base, BY_LETTER[one], BY_LETTER[other])[1])

    def test_the_askers_own(self):
        annals, names = grown({"a": "", "b": ""}, {"a": {"f": A}, "b": {"f": LOW}})
        told = clashes_of(annals.shelf, names["a"], names["b"])
        told.clear()
        self.assertEqual(clashes_of(annals.shelf, names["a"], names["b"]), [("f", None, A, LOW)])


class AnyStore(AnnalsCase):

    def test_no_version(self):
        annals, names = grown({"a": "", "b": "a"}, BY_LETTER)
        for store in (annals.shelf, plain(annals.shelf)):
            for wrong in no_versions(annals.shelf):
                for ask in (base_of, clashes_of):
                    for one, other in ((wrong, names["a"]), (names["a"], wrong), (wrong, wrong)):
                        self.need_refused(annals, NoVersion, lambda: ask(store, one, other))

    def test_a_version_of_another_store(self):
        annals, names = grown({"a": ""})
        for ask in (base_of, clashes_of):
            with self.assertRaises(NoVersion):
                ask(Shelf(None), names["a"], names["a"])

    def test_the_same_of_each_store(self):
        annals, names = grown({"a": "", "b": "a", "c": "a"}, BY_LETTER)
        for store in (Shelf(annals.shelf), plain(annals.shelf), Shelf(plain(annals.shelf)), shaken(annals.shelf)):
            for one, other in itertools.product("abc", repeat=2):
                for ask in (base_of, clashes_of):
                    self.assertEqual(ask(store, names[one], names[other]),
                                     ask(annals.shelf, names[one], names[other]))


class JoinCase(AnnalsCase):

    def need_nothing(self, annals, branch, other):
        self.assertEqual(self.need_untouched(annals, lambda: join_heads(annals, branch, other)), "nothing")

    def need_moved(self, annals, branch, other):
        kept = state(annals)
        self.assertEqual(join_heads(annals, branch, other), "moved")
        heads = dict(kept[0])
        heads[branch] = heads[other]
        self.assertEqual(state(annals), (sorted(heads.items()), kept[1]))

    def need_joined(self, annals, branch, other, files):
        kept = state(annals)
        heads = dict(kept[0])
        self.assertEqual(join_heads(annals, branch, other), "joined")
        joined = annals.head(branch)
        tree = annals.shelf.thing(joined)[1]
        self.assertEqual(annals.shelf.thing(joined), ("note", tree, (heads[branch], heads[other]), "join"))
        self.assertEqual(annals.files(joined), files)
        heads[branch] = joined
        told = state(annals)
        self.assertEqual(told[0], sorted(heads.items()))
        self.assertEqual(told[1][:len(kept[1])], kept[1])
        return joined


class Nothing(JoinCase):

    def test_the_other_one_at_nothing(self):
        annals, names = begun({"a": ""}, BY_LETTER, {"main": "a", "none": "", "void": ""})
        self.need_nothing(annals, "main", "none")
        self.need_nothing(annals, "void", "none")

    def test_a_branch_with_itself(self):
        annals, names = begun({"a": ""}, BY_LETTER, {"main": "a", "none": ""})
        self.need_nothing(annals, "main", "main")
        self.need_nothing(annals, "none", "none")

    def test_two_at_one_version(self):
        annals, names = begun({"a": "", "b": "a"}, BY_LETTER, {"main": "b", "side": "b"})
        self.need_nothing(annals, "main", "side")
        self.need_nothing(annals, "side", "main")

    def test_a_version_that_lies_before(self):
        shape = {"a": "", "b": "a", "c": "", "d": "bc"}
        annals, names = begun(shape, BY_LETTER, {"main": "d", "first": "a", "second": "b", "third": "c"})
        for other in ("first", "second", "third"):
            self.need_nothing(annals, "main", other)


class Moved(JoinCase):

    def test_a_branch_at_nothing(self):
        annals, names = begun({"a": ""}, BY_LETTER, {"main": "a", "none": "", "void": ""})
        self.need_moved(annals, "none", "main")
        self.assertEqual(annals.head("none"), names["a"])
        self.need_nothing(annals, "none", "main")

    def test_a_version_that_lies_before(self):
        shape = {"a": "", "b": "a", "c": "", "d": "bc"}
        annals, names = begun(shape, BY_LETTER, {"main": "d", "first": "a", "second": "b", "third": "c"})
        for branch in ("first", "second", "third"):
            self.need_moved(annals, branch, "main")
        self.assertEqual({version for label, version in annals.branches()}, {names["d"]})


class Joined(JoinCase):

    def test_two_that_meet(self):
        files = {"a": {"f": A, "g": A}, "b": {"f": LOW, "g": A}, "c": {"f": HIGH, "h/i": A}}
        annals, names = begun({"a": "", "b": "a", "c": "a"}, files, {"main": "b", "side": "c", "old": "a"})
        self.need_joined(annals, "main", "side", {"f": BOTH, "h/i": A})
        self.need_nothing(annals, "main", "side")
        self.need_moved(annals, "side", "main")

    def test_nothing_is_put_but_the_files_and_the_note(self):
        files = {"a": {"f": A, "g": A}, "b": {"f": LOW, "g": A}, "c": {"f": HIGH, "h/i": A}}
        annals, names = begun({"a": "", "b": "a", "c": "a"}, files, {"main": "b", "side": "c"})
        other = Shelf(annals.shelf)
        join_heads(annals, "main", "side")
        noted(other, {"f": BOTH, "h/i": A}, [names["b"], names["c"]], "join")
        self.assertEqual(annals.shelf.names(), other.names())

    def test_from_either_side(self):
        answers = (("joined", "joined"), ("nothing", "moved"), ("moved", "nothing"), ("nothing", "nothing"))
        for shape in SHAPES:
            for one, other in itertools.product(shape, repeat=2):
                there, names = begun(shape, BY_LETTER, {"one": one, "other": other})
                back, names = begun(shape, BY_LETTER, {"one": one, "other": other})
                if clashes_of(there.shelf, names[one], names[other]) == []:
                    told = join_heads(there, "one", "other"), join_heads(back, "other", "one")
                    self.assertIn(told, answers)
                    self.assertEqual(there.files(there.head("one")), back.files(back.head("other")))

    def test_the_branchs_version_first(self):
        files = {"b": {"f": A}, "c": {"g": A}}
        shape = {"a": "", "b": "a", "c": "a"}
        annals, names = begun(shape, files, {"one": "b", "other": "c", "more": "c", "same": "b"})
        one = self.need_joined(annals, "one", "other", {"f": A, "g": A})
        more = self.need_joined(annals, "more", "same", {"f": A, "g": A})
        self.assertEqual(annals.shelf.thing(one)[2], (names["b"], names["c"]))
        self.assertEqual(annals.shelf.thing(more)[2], (names["c"], names["b"]))

    def test_joined_already(self):
        files = {"b": {"f": A}, "c": {"g": A}}
        shape = {"a": "", "b": "a", "c": "a"}
        annals, names = begun(shape, files, {"one": "b", "other": "c", "same": "b"})
        joined = self.need_joined(annals, "one", "other", {"f": A, "g": A})
        told = annals.shelf.names()
        self.assertEqual(self.need_joined(annals, "same", "other", {"f": A, "g": A}), joined)
        self.assertEqual(annals.shelf.names(), told)

    def test_two_that_meet_nowhere(self):
        files = {"a": {"f": A, "g": A}, "b": {"f": A, "h": LOW}}
        annals, names = begun({"a": "", "b": ""}, files, {"main": "a", "side": "b"})
        self.need_joined(annals, "main", "side", {"f": A, "g": A, "h": LOW})

    def test_two_with_the_same_files(self):
        files = {"a": {"f": A}, "b": {"f": LOW}, "c": {"f": LOW}}
        annals, names = begun({"a": "", "b": "a", "c": "a"}, files, {"main": "b", "side": "c"})
        self.need_joined(annals, "main", "side", {"f": LOW})

    def test_no_files_left(self):
        files = {"a": {"f": A, "g": A}, "b": {"f": A}, "c": {"g": A}}
        annals, names = begun({"a": "", "b": "a", "c": "a"}, files, {"main": "b", "side": "c"})
        self.need_joined(annals, "main", "side", {})

    def test_the_base_is_the_first_place(self):
        # By b's files e's are as the base; by c's, f would clash.
        files = {"b": {"f": A}, "c": {"f": OTHER}, "d": {"f": LOW}, "e": {"f": A}}
        annals, names = begun(ACROSS, files, {"main": "d", "side": "e"})
        self.need_joined(annals, "main", "side", {"f": LOW})

    def test_again_and_again(self):
        annals = Annals()
        annals.begin("main", None)
        annals.keep("main", {"f": A}, "begun")
        annals.begin("side", annals.head("main"))
        annals.keep("main", {"f": LOW}, "low")
        annals.keep("side", {"f": HIGH}, "high")
        self.need_joined(annals, "main", "side", {"f": BOTH})
        # From here on the side's version is the base.
        annals.keep("side", {"f": HIGH, "g": A}, "more")
        annals.keep("main", {"f": BOTH + ("z",)}, "more")
        self.need_joined(annals, "main", "side", {"f": BOTH + ("z",), "g": A})
        self.need_moved(annals, "side", "main")

    def test_upon_another_shelf(self):
        files = {"a": {"f": A}, "b": {"f": LOW}, "c": {"f": HIGH}}
        annals, names = begun({"a": "", "b": "a", "c": "a"}, files, {"main": "b", "side": "c"})
        old = annals.shelf
        kept = old.names()
        annals.stand_on(Shelf(plain(old)))
        self.need_joined(annals, "main", "side", {"f": BOTH})
        self.assertEqual(old.names(), kept)


class Refused(JoinCase):

    def test_a_clash(self):
        for files in ({"a": {"f": A}, "b": {"f": LOW}, "c": {"f": OTHER}},
                      {"a": {"f": A}, "b": {"f": LOW}, "c": {}},
                      {"b": {"f": LOW}, "c": {"f": HIGH}},
                      {"b": {"f": LOW}, "c": {"f/g": HIGH}},
                      # One path clashes; others would be joined.
                      {"a": {"f": A, "g": A}, "b": {"f": LOW, "g": LOW, "h": A}, "c": {"f": OTHER, "g": HIGH}}):
            annals, names = begun({"a": "", "b": "a", "c": "a"}, files, {"main": "b", "side": "c", "old": "a"})
            for branch, other in (("main", "side"), ("side", "main")):
                self.need_refused(annals, Clash, lambda: join_heads(annals, branch, other))

    def test_a_clash_with_no_meeting_place(self):
        annals, names = begun({"a": "", "b": ""}, BY_LETTER, {"main": "a", "side": "b"})
        self.need_refused(annals, Clash, lambda: join_heads(annals, "main", "side"))

    def test_no_branch(self):
        annals, names = begun({"a": "", "b": ""}, BY_LETTER, {"main": "a", "side": "b", "none": ""})
        for branch, other in itertools.product(("main", "side", "none", "", "mai", "Main", "a b"), repeat=2):
            if branch not in ("main", "side", "none") or other not in ("main", "side", "none"):
                self.need_refused(annals, NoBranch, lambda: join_heads(annals, branch, other))

    def test_as_the_document_tells(self):
        for shape in SHAPES:
            for one, other in itertools.product([""] + list(shape), repeat=2):
                annals, names = begun(shape, BY_LETTER, {"one": one, "other": other, "third": one})
                if other == "" or (one != "" and other in told_meeting(shape, one, other)):
                    self.need_nothing(annals, "one", "other")
                elif one == "" or one in told_meeting(shape, one, other):
                    self.need_moved(annals, "one", "other")
                else:
                    met = told_meeting(shape, one, other)
                    base = BY_LETTER[met[0]] if met else {}
                    files, clashes = joined_files(base, BY_LETTER[one], BY_LETTER[other])
                    if clashes:
                        self.need_refused(annals, Clash, lambda: join_heads(annals, "one", "other"))
                    else:
                        self.need_joined(annals, "one", "other", files)


class CarryCase(AnnalsCase):

    def need_carried(self, annals, version, onto, files):
        """Another version comes of it, by the words of 6.3."""
        kept = state(annals)
        words = annals.shelf.thing(version)[3]
        other = Shelf(annals.shelf)
        told = carried(annals, version, onto)
        self.assertNotEqual(told, onto)
        self.assertEqual(annals.shelf.thing(told), ("note", annals.shelf.thing(told)[1], (onto,), words))
        self.assertEqual(annals.files(told), files)
        self.assertEqual(annals.branches(), kept[0])
        # Kept with paths rising, and nothing is put beside.
        self.assertEqual(noted(other, dict(sorted(files.items())), [onto], words), told)
        self.assertEqual(annals.shelf.names(), other.names())
        return told

    def need_onto(self, annals, version, onto):
        """Nothing is left of the change."""
        self.assertEqual(self.need_untouched(annals, lambda: carried(annals, version, onto)), onto)


class Carried(CarryCase):

    def test_a_version_with_one_parent(self):
        files = {"a": {"f": A, "g": A}, "b": {"f": LOW, "h/i": A}, "c": {"f": HIGH, "g": A, "j": ()}}
        annals, names = grown({"a": "", "b": "a", "c": "a"}, files)
        annals.begin("main", names["b"])
        annals.begin("side", names["c"])
        annals.begin("none", None)
        self.need_carried(annals, names["b"], names["c"], {"f": BOTH, "h/i": A, "j": ()})
        self.need_carried(annals, names["c"], names["b"], {"f": BOTH, "h/i": A, "j": ()})

    def test_a_version_without_parents(self):
        files = {"a": {"f": A, "g": A}, "b": {"f": A, "h": A}, "c": {"f": LOW}, "d": {}}
        annals, names = grown({"a": "", "b": "", "c": "", "d": ""}, files)
        self.need_carried(annals, names["a"], names["b"], {"f": A, "g": A, "h": A})
        self.need_carried(annals, names["a"], names["d"], {"f": A, "g": A})
        self.need_refused(annals, Clash, lambda: carried(annals, names["a"], names["c"]))
        # What it hasn't is not left out by it: its change leads from no files.
        self.need_onto(annals, names["d"], names["a"])

    def test_a_version_with_two_parents(self):
        # By b the change is g alone; by c it would be f.
        files = {"a": {}, "b": {"f": A}, "c": {"g": A}, "d": {"f": A, "g": A}, "e": {"h": A}}
        annals, names = grown({"a": "", "b": "a", "c": "a", "d": "bc", "e": "a"}, files)
        self.need_carried(annals, names["d"], names["e"], {"g": A, "h": A})
        annals, names = grown({"a": "", "b": "a", "c": "a", "d": "cb", "e": "a"}, files)
        self.need_carried(annals, names["d"], names["e"], {"f": A, "h": A})

    def test_only_its_own_change(self):
        # What came ahead of it is not carried with it.
        files = {"a": {"f": A}, "b": {"f": A, "g": A}, "c": {"f": LOW, "g": A}, "d": {"f": A}}
        annals, names = grown({"a": "", "b": "a", "c": "b", "d": "a"}, files)
        self.need_carried(annals, names["c"], names["d"], {"f": LOW})

    def test_the_base_is_the_first_parent_not_where_they_meet(self):
        # They meet at a, whose files would let f clash.
        files = {"a": {"f": A}, "b": {"f": OTHER}, "c": {"f": LOW}, "d": {"f": OTHER + ("d",)}}
        annals, names = grown({"a": "", "b": "a", "c": "b", "d": "a"}, files)
        self.need_carried(annals, names["c"], names["d"], {"f": LOW + ("d",)})

    def test_what_is_left_out(self):
        files = {"a": {"f": A, "g/h": A}, "b": {"f": A}, "c": {"f": LOW, "g/h": A}}
        annals, names = grown({"a": "", "b": "a", "c": "a"}, files)
        self.need_carried(annals, names["b"], names["c"], {"f": LOW})

    def test_nothing_left_of_the_change(self):
        files = {"a": {"f": A}, "b": {"f": LOW}, "c": {"f": LOW, "g": A}, "d": {"f": A}}
        annals, names = grown({"a": "", "b": "a", "c": "a", "d": "a"}, files)
        self.need_onto(annals, names["b"], names["c"])
        # A version that changes nothing, wherever it is carried.
        for letter in "abcd":
            self.need_onto(annals, names["d"], names[letter])

    def test_onto_its_own_parent(self):
        files = {"a": {"f": A}, "b": {"f": LOW}, "c": {"f": LOW}, "d": {"f": HIGH}}
        annals, names = grown({"a": "", "b": "a", "c": "b", "d": "ab"}, files)
        self.assertEqual(self.need_untouched(annals, lambda: carried(annals, names["b"], names["a"])), names["b"])
        # One that changes nothing becomes its parent.
        self.need_onto(annals, names["c"], names["b"])
        # One of two parents becomes another one, of one parent.
        told = self.need_carried(annals, names["d"], names["a"], {"f": HIGH})
        self.assertNotEqual(told, names["d"])

    def test_onto_itself(self):
        annals, names = grown(ACROSS, BY_LETTER)
        for letter in ACROSS:
            self.need_onto(annals, names[letter], names[letter])

    def test_onto_one_that_comes_of_it(self):
        files = {"a": {"f": A}, "b": {"f": LOW}, "c": {"f": BOTH}}
        annals, names = grown({"a": "", "b": "a", "c": "b"}, files)
        self.need_onto(annals, names["b"], names["c"])

    def test_carried_twice(self):
        files = {"a": {"f": A}, "b": {"f": LOW}, "c": {"f": HIGH}}
        annals, names = grown({"a": "", "b": "a", "c": "a"}, files)
        told = self.need_carried(annals, names["b"], names["c"], {"f": BOTH})
        # Once more onto the same one: the very version; onto what came: nothing is left of it.
        self.assertEqual(self.need_untouched(annals, lambda: carried(annals, names["b"], names["c"])), told)
        self.need_onto(annals, names["b"], told)
        # What came has the same change.
        self.assertEqual(carried(annals, told, names["a"]), names["b"])

    def test_the_words(self):
        annals = Annals()
        annals.begin("main", None)
        first = annals.keep("main", {"f": A}, "first")
        annals.begin("side", first)
        other = annals.keep("side", {"f": A, "g": A}, "side")
        for words in ("", "w" * 20, "a | b", "side"):
            annals.set_head("main", first)
            version = annals.keep("main", {"f": LOW}, words)
            told = self.need_carried(annals, version, other, {"f": LOW, "g": A})
            self.assertEqual(annals.shelf.thing(told)[3], words)

    def test_nothing_left_whatever_the_words_are(self):
        annals, names = grown({"a": "", "b": "a", "c": "a"}, {"b": {"f": A}, "c": {"f": A}})
        self.assertEqual(carried(annals, names["b"], names["c"]), names["c"])
        self.assertEqual(carried(annals, names["c"], names["b"]), names["b"])

    def test_rising_paths(self):
        # Two leaves of one digest come of it, and the lower path's gets the lower number.
        low = BOTH
        high = next(("x", "b", str(number)) for number in range(1000)
                    if digest(("leaf", ("x", "b", str(number)))) == digest(("leaf", low)))
        for first, second in ((low, high), (high, low)):
            files = {"a": {"r": A, "q": A}, "b": {"r": LOW, "q": LOW},
                     "c": {"r": A[:2] + second[2:], "q": A[:2] + first[2:]}}
            annals, names = grown({"a": "", "b": "a", "c": "a"}, files)
            told = self.need_carried(annals, names["b"], names["c"], {"q": first, "r": second})
            rows = dict(annals.shelf.thing(annals.shelf.thing(told)[1])[1])
            numbers = {label: int(name.partition(".")[2]) for label, name in rows.items()}
            self.assertEqual(numbers["q"] + 1, numbers["r"])

    def test_a_clash(self):
        for files in ({"a": {"f": A}, "b": {"f": LOW}, "c": {"f": OTHER}},
                      {"a": {"f": A}, "b": {"f": LOW}, "c": {}},
                      {"a": {"f": A}, "b": {}, "c": {"f": LOW}},
                      {"b": {"f": LOW}, "c": {"f": HIGH}},
                      {"b": {"f": LOW}, "c": {"f/g": HIGH}},
                      {"a": {"f": A, "g": A}, "b": {"f": LOW, "g": LOW, "h": A}, "c": {"f": OTHER, "g": HIGH}}):
            annals, names = grown({"a": "", "b": "a", "c": "a"}, files)
            annals.begin("main", names["b"])
            for version, onto in (("b", "c"), ("c", "b")):
                self.need_refused(annals, Clash, lambda: carried(annals, names[version], names[onto]))

    def test_no_version(self):
        annals, names = grown({"a": "", "b": "", "c": ""}, {"a": {"f": A}, "b": {"f": LOW}})
        annals.begin("main", names["a"])
        for wrong in no_versions(annals.shelf) + ["main"]:
            for version, onto in ((wrong, names["a"]), (names["a"], wrong), (wrong, wrong), (names["c"], wrong)):
                self.need_refused(annals, NoVersion, lambda: carried(annals, version, onto))

    def test_upon_another_shelf(self):
        files = {"a": {"f": A}, "b": {"f": LOW}, "c": {"f": HIGH}}
        annals, names = grown({"a": "", "b": "a", "c": "a"}, files)
        old = annals.shelf
        kept = old.names()
        annals.stand_on(Shelf(plain(old)))
        self.need_carried(annals, names["b"], names["c"], {"f": BOTH})
        self.assertEqual(old.names(), kept)

    def test_as_the_document_tells(self):
        for shape in SHAPES:
            for version, onto in itertools.product(shape, repeat=2):
                annals, names = grown(shape, BY_LETTER)
                base = BY_LETTER[shape[version][0]] if shape[version] else {}
                files, clashes = joined_files(base, BY_LETTER[onto], BY_LETTER[version])
                if clashes:
                    self.need_refused(annals, Clash, lambda: carried(annals, names[version], names[onto]))
                elif files == BY_LETTER[onto]:
                    self.need_onto(annals, names[version], names[onto])
                else:
                    told = self.need_carried(annals, names[version], names[onto], files)
                    self.assertEqual(unfolded(annals.shelf, told),
                                     (files, (unfolded(annals.shelf, names[onto]),), version))

    def test_each_three_files(self):
        for base, mine, yours in itertools.product(families(("a", "a/b", "ab"), (A, LOW, HIGH)), repeat=3):
            annals, names = grown({"a": "", "b": "", "c": "a"}, {"a": base, "b": mine, "c": yours})
            files, clashes = joined_files(base, mine, yours)
            if clashes:
                self.need_refused(annals, Clash, lambda: carried(annals, names["c"], names["b"]))
            elif files == mine:
                self.need_onto(annals, names["c"], names["b"])
            else:
                self.need_carried(annals, names["c"], names["b"], files)


class HandedIn(AnnalsCase):

    def test_what_was_told_stays(self):
        files = {"a": {"f": A}, "b": {"f": LOW, "g": A}, "c": {"f": OTHER, "h": A}}
        annals, names = grown({"a": "", "b": "a", "c": "a"}, files)
        annals.begin("main", names["b"])
        annals.begin("side", names["c"])
        told = (base_of(annals.shelf, names["b"], names["c"]), clashes_of(annals.shelf, names["b"], names["c"]),
                annals.branches(), annals.files(names["b"]))
        kept = copy.deepcopy(told)
        annals.keep("side", {"f": A, "h": A}, "back")
        annals.begin("more", names["a"])
        join_heads(annals, "more", "main")
        self.assertEqual(join_heads(annals, "main", "side"), "joined")
        carried(annals, names["b"], annals.head("side"))
        self.assertEqual(told, kept)

    def test_two_annals(self):
        files = {"a": {"f": A}, "b": {"f": LOW}, "c": {"f": HIGH}}
        one, names = grown({"a": "", "b": "a", "c": "a"}, files)
        other, names = grown({"a": "", "b": "a", "c": "a"}, files)
        for annals in (one, other):
            annals.begin("main", names["b"])
            annals.begin("side", names["c"])
        self.need_untouched(other, lambda: join_heads(one, "main", "side"))
        self.need_untouched(other, lambda: carried(one, names["c"], names["b"]))


if __name__ == "__main__":
    unittest.main()
