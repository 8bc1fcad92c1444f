"""Promises J4 to J6, and annals.sides as the interface has it."""

import copy
import itertools
import unittest

from samples import A, BOTH, GOOD_FILES, HIGH, LOW, OTHER, families

from annals.joins import clean_lines, joined_lines
from annals.sides import joined_files

STATES = (None, (), A, LOW, HIGH, OTHER)


def one_file(lines):
    return {} if lines is None else {"f": lines}


def told_at(base, mine, yours):
    """What J4 has at a path: a list of what stands there, an empty one for a clash."""
    if mine == yours:
        return [mine]
    if mine == base:
        return [yours]
    if yours == base:
        return [mine]
    if None in (base, mine, yours):
        return []
    lines = clean_lines(joined_lines(base, mine, yours))
    return [] if lines is None else [lines]


def told_join(base, mine, yours):
    """What J4 and J5 have: each path by itself, then each two paths against each other."""
    paths = sorted({**base, **mine, **yours})
    at = {path: told_at(base.get(path), mine.get(path), yours.get(path)) for path in paths}
    standing = [path for path in paths if at[path] not in ([], [None])]
    clashing = {path for path in paths if at[path] == []}
    for one, other in itertools.permutations(standing, 2):
        if other.startswith(one + "/"):
            clashing.update((one, other))
    files = {path: at[path][0] for path in standing if path not in clashing}
    return files, [(path, base.get(path), mine.get(path), yours.get(path)) for path in sorted(clashing)]


FAMILIES = families(("a", "a/b", "a/b/c", "ab"), (A, LOW, HIGH))
TRIPLES = list(itertools.product(FAMILIES, repeat=3)) + list(itertools.product(GOOD_FILES, repeat=3))


class SideCase(unittest.TestCase):

    def need_join(self, base, mine, yours, files, clashes):
        """What comes of a join, and of the one from the other side."""
        told = joined_files(base, mine, yours)
        self.assertEqual(told, (files, clashes))
        self.assertIs(told.__class__, tuple)
        turned = [(path, old, your_lines, my_lines) for path, old, my_lines, your_lines in clashes]
        self.assertEqual(joined_files(base, yours, mine), (files, turned))


class AtAPath(SideCase):

    def need_stands(self, base, mine, yours, lines):
        self.need_join(one_file(base), one_file(mine), one_file(yours), one_file(lines), [])

    def need_clash(self, base, mine, yours):
        self.need_join(one_file(base), one_file(mine), one_file(yours), {}, [("f", base, mine, yours)])

    def test_mine_and_yours_alike(self):
        self.need_stands(A, A, A, A)
        self.need_stands(A, LOW, LOW, LOW)
        self.need_stands(A, (), (), ())
        self.need_stands((), A, A, A)
        # None on each side, by itself and together.
        self.need_stands(None, A, A, A)
        self.need_stands(None, (), (), ())
        self.need_stands(A, None, None, None)
        self.need_stands((), None, None, None)

    def test_one_side_as_the_base(self):
        self.need_stands(A, A, LOW, LOW)
        self.need_stands(A, A, (), ())
        self.need_stands((), (), A, A)
        self.need_stands(A, A, None, None)
        self.need_stands((), (), None, None)
        self.need_stands(None, None, A, A)
        self.need_stands(None, None, (), ())

    def test_one_of_the_three_is_none(self):
        self.need_clash(None, A, LOW)
        self.need_clash(None, LOW, HIGH)
        self.need_clash(None, (), A)
        self.need_clash(A, None, LOW)
        self.need_clash(A, None, ())
        self.need_clash((), None, A)
        self.need_clash(A, LOW, None)
        self.need_clash((), A, None)

    def test_lines_joined(self):
        self.need_stands(A, LOW, HIGH, BOTH)
        self.need_stands(A, ("b", "c"), ("a", "b"), ("b",))
        self.need_stands(("a", "b"), ("a",), ("a", "b"), ("a",))
        self.need_stands(("a", "b", "c"), ("b", "c"), ("a", "b", "c", "d"), ("b", "c", "d"))

    def test_lines_joined_may_all_be_gone(self):
        self.need_stands(("a", "b", "c"), (), ("a", "b", "c"), ())
        self.need_stands(("a",), (), (), ())

    def test_lines_that_clash(self):
        self.need_clash(A, LOW, OTHER)
        self.need_clash((), A, LOW)
        self.need_clash(A, (), LOW)
        self.need_clash(A, ("a", "x", "c"), ("a", "y", "c"))

    def test_no_lines_are_not_none(self):
        self.need_stands(None, (), None, ())
        self.need_clash((), ("x",), ("y",))
        self.need_clash(("x",), (), ("y",))

    def test_each_state_of_each_side(self):
        for base, mine, yours in itertools.product(STATES, repeat=3):
            told = told_at(base, mine, yours)
            if told:
                self.need_stands(base, mine, yours, told[0])
            else:
                self.need_clash(base, mine, yours)


class Paths(SideCase):

    def test_no_files(self):
        self.need_join({}, {}, {}, {}, [])

    def test_paths_of_each_side(self):
        self.need_join({"a": A, "b": A, "c": A, "d/e": A},
                       {"a": LOW, "b": A, "d/e": A, "g/h": A},
                       {"a": HIGH, "c": A, "d/e": (), "f": A},
                       {"a": BOTH, "d/e": (), "f": A, "g/h": A}, [])

    def test_each_path_by_itself(self):
        self.need_join({"a": A, "b": A, "c": A}, {"a": LOW, "b": LOW, "c": LOW}, {"a": OTHER, "b": HIGH, "d": A},
                       {"b": BOTH, "d": A}, [("a", A, LOW, OTHER), ("c", A, LOW, None)])

    def test_rising_clashes(self):
        paths = ["ab", "b", "a/b", "a/a/c", "aa", "a/ab", "c/a"]
        mine = {path: LOW for path in paths}
        yours = {path: OTHER for path in reversed(paths)}
        rising = ["a/a/c", "a/ab", "a/b", "aa", "ab", "b", "c/a"]
        self.need_join({}, mine, yours, {}, [(path, None, LOW, OTHER) for path in rising])
        self.need_join({path: A for path in paths}, mine, yours, {}, [(path, A, LOW, OTHER) for path in rising])

    def test_a_folder_by_name_alone_is_in_nobodys_way(self):
        self.need_join({}, {"a": A}, {"ab": LOW, "abc/a": A}, {"a": A, "ab": LOW, "abc/a": A}, [])
        self.need_join({}, {"b/a": A}, {"a": A}, {"a": A, "b/a": A}, [])


class InTheWay(SideCase):

    def test_a_file_and_a_folder(self):
        self.need_join({}, {"a": A}, {"a/b": LOW}, {}, [("a", None, A, None), ("a/b", None, None, LOW)])
        self.need_join({"c": A}, {"a/b/c/d": A, "c": A}, {"a": LOW, "c": LOW}, {"c": LOW},
                       [("a", None, None, LOW), ("a/b/c/d", None, A, None)])

    def test_all_of_them(self):
        self.need_join({}, {"a": A}, {"a/b": LOW, "a/c/d": HIGH, "b": A}, {"b": A},
                       [("a", None, A, None), ("a/b", None, None, LOW), ("a/c/d", None, None, HIGH)])
        self.need_join({}, {"a/b": A}, {"a/b/c": LOW, "a/b/d": HIGH, "a/c": A}, {"a/c": A},
                       [("a/b", None, A, None), ("a/b/c", None, None, LOW), ("a/b/d", None, None, HIGH)])

    def test_in_one_place_of_two(self):
        # At a/b the file is left out by the one side and becomes a folder on the other.
        self.need_join({"a/b": A}, {"a/b": A, "c": A}, {"a/b/c": A, "c/d": A},
                       {"a/b/c": A}, [("c", None, A, None), ("c/d", None, None, A)])

    def test_with_what_the_base_had(self):
        # Mine makes the folder a file; yours changes nothing, or something else, beneath.
        self.need_join({"a/b": A}, {"a": LOW}, {"a/b": A}, {"a": LOW}, [])
        self.need_join({"a/b": A, "a/c": A}, {"a": LOW}, {"a/b": A, "a/c": A, "a/d": A}, {},
                       [("a", None, LOW, None), ("a/d", None, None, A)])

    def test_one_that_clashes_already_is_in_nobodys_way(self):
        self.need_join({"a/b": A}, {"a": LOW}, {"a/b": HIGH}, {"a": LOW}, [("a/b", A, None, HIGH)])
        self.need_join({"a": A}, {"a": LOW}, {"a/b": HIGH}, {"a/b": HIGH}, [("a", A, LOW, None)])
        self.need_join({"a": A}, {"a/b": LOW, "a/c": LOW}, {"a": OTHER}, {"a/b": LOW, "a/c": LOW},
                       [("a", A, None, OTHER)])
        # One beneath clashes already, another one stands in the way.
        self.need_join({"a/b": A}, {"a": LOW}, {"a/b": HIGH, "a/c": A}, {},
                       [("a", None, LOW, None), ("a/b", A, None, HIGH), ("a/c", None, None, A)])

    def test_what_is_left_out_is_in_nobodys_way(self):
        self.need_join({"a": A}, {"a/b": LOW}, {"a": A}, {"a/b": LOW}, [])
        self.need_join({"a": A}, {"a/b": LOW}, {}, {"a/b": LOW}, [])
        self.need_join({"a": A}, {"a/b": LOW}, {"a/c": HIGH}, {"a/b": LOW, "a/c": HIGH}, [])

    def test_paths_somewhat_beyond_the_bound(self):
        self.need_join({}, {"a/b/c/d/e": A}, {"a/b/c/d": A, "b": ("x" * 30,)}, {"b": ("x" * 30,)},
                       [("a/b/c/d", None, None, A), ("a/b/c/d/e", None, A, None)])


class Whole(SideCase):

    def test_as_the_document_tells(self):
        for base, mine, yours in TRIPLES:
            self.assertEqual(joined_files(base, mine, yours), told_join(base, mine, yours), (base, mine, yours))

    def test_paths_rise_whatever_order_they_came_in(self):
        paths = ["b", "ab", "a/b", "c/d", "aa", "a/a/b", "d"]
        mine = {path: A for path in paths}
        yours = {path: A for path in paths[::-1] + ["ac", "a/c"]}
        for told in (joined_files({}, mine, yours), joined_files(mine, mine, yours), joined_files(yours, yours, mine)):
            self.assertEqual(list(told[0]), sorted(told[0]))

    def test_exchanged(self):
        for base, mine, yours in TRIPLES[::7]:
            there = joined_files(base, mine, yours)
            back = joined_files(base, yours, mine)
            self.assertEqual(there[0], back[0])
            self.assertEqual(there[1], [(path, old, other, one) for path, old, one, other in back[1]])

    def test_one_side_as_the_base(self):
        for base, side in list(itertools.product(FAMILIES, repeat=2)) + list(itertools.product(GOOD_FILES, repeat=2)):
            self.assertEqual(joined_files(base, base, side), (side, []))
            self.assertEqual(joined_files(base, side, base), (side, []))

    def test_both_sides_alike(self):
        for base, side in itertools.product(GOOD_FILES, repeat=2):
            self.assertEqual(joined_files(base, side, dict(side)), (side, []))

    def test_what_clashes_in_its_lines_is_unlike_all_round(self):
        for base, mine, yours in TRIPLES:
            for clash in joined_files(base, mine, yours)[1]:
                if None not in clash:
                    self.assertEqual(len(set(clash[1:])), 3, clash)

    def test_the_askers_own(self):
        base = {"a": A, "b": A}
        mine = {"a": LOW, "b": LOW}
        yours = {"a": HIGH, "b": OTHER}
        kept = copy.deepcopy((base, mine, yours))
        told = joined_files(base, mine, yours)
        self.assertEqual((base, mine, yours), kept)
        for files in (base, mine, yours):
            files.clear()
        self.assertEqual(told, ({"a": BOTH}, [("b", A, LOW, OTHER)]))
        told[0].clear()
        told[1].clear()
        self.assertEqual(joined_files(*kept), ({"a": BOTH}, [("b", A, LOW, OTHER)]))

    def test_never_what_was_handed_in(self):
        files = {"a": A}
        for told in (joined_files(files, files, files), joined_files({}, files, {}), joined_files({}, {}, files)):
            told[0]["b"] = A
            self.assertEqual(files, {"a": A})


if __name__ == "__main__":
    unittest.main()
