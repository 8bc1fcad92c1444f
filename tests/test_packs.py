"""Promises P2 to P4, and annals.packs as the interface has it."""

import itertools
import unittest

from samples import (A, BOTH, HIGH, LOW, OTHER, SHAPES, Base, all_rows, begun, filled, no_names, no_versions, plain,
                     shaken, told_reached, unfolded)

from annals.changes import changes_of, read_rows
from annals.errors import NoName, NoVersion
from annals.lines import cost_of, spans_of
from annals.moves import base_of, clashes_of, join_heads
from annals.packs import Pack
from annals.rows import carry_row, row_of
from annals.shelf import Shelf
from annals.trees import files_of, found_at, keep_files
from annals.versions import Annals, noted
from annals.walks import all_before, is_before, meeting_of, parents_of, tree_of, words_of


def leaves(*rows):
    """A shelf with a leaf of each of these rows of lines."""
    shelf = Shelf(None)
    for row in rows:
        shelf.put(("leaf", tuple(row)))
    return shelf


def whole(shelf):
    return Pack(shelf, shelf.names())


def told_pack(store, roots):
    """The steps by their names, and the weight, by the words of P2 and P3."""
    steps = {}
    taken = []
    weight = 0
    for name in told_reached(store, roots):
        steps[name] = 0
        thing = store.thing(name)
        if thing[0] == "leaf":
            bases = [other for other in taken if steps[other] < 4]
            costs = [cost_of(spans_of(store.thing(other)[1], thing[1])) for other in bases]
            cost = min(costs, default=len(thing[1]))
            if cost < len(thing[1]):
                base = [other for other, own in zip(bases, costs) if own == cost][-1]
                steps[name] = steps[base] + 1
            weight += min(cost, len(thing[1]))
            taken.append(name)
    return steps, weight


class PackCase(unittest.TestCase):

    def need_packed(self, shelf, steps, weight):
        """The steps of all leaves, in their order, and the weight."""
        for store in (shelf, plain(shelf), Shelf(shelf), whole(shelf), whole(whole(shelf))):
            pack = whole(store)
            self.assertEqual([pack.steps(name) for name in shelf.names() if name[0] == "L"], steps)
            self.assertEqual(pack.weight(), weight)
            self.need_read(pack, shelf, shelf.names())

    def need_read(self, pack, store, names):
        """The pack has just these names of the store, and reads as it."""
        self.assertEqual(pack.names(), names)
        for name in store.names():
            self.assertIs(pack.has(name), name in names)
        for name in itertools.chain(names, reversed(names), names[::2], names):
            self.assertEqual(pack.thing(name), store.thing(name))

    def need_as_told(self, store, roots):
        pack = Pack(store, roots)
        steps, weight = told_pack(store, roots)
        self.need_read(pack, store, list(steps))
        self.assertEqual({name: pack.steps(name) for name in pack.names()}, steps)
        self.assertEqual(pack.weight(), weight)
        return pack


class Leaves(PackCase):

    def test_nothing(self):
        self.need_packed(Shelf(None), [], 0)
        pack = Pack(leaves("abc"), [])
        self.assertEqual((pack.names(), pack.weight()), ([], 0))

    def test_one_leaf(self):
        self.need_packed(leaves("abcde"), [0], 5)
        self.need_packed(leaves(""), [0], 0)
        self.need_packed(leaves([""]), [0], 1)
        self.need_packed(leaves(["same"] * 300), [0], 300)

    def test_leaves_with_nothing_in_common(self):
        self.need_packed(leaves("abcde", "fghij"), [0, 0], 10)

    def test_as_spans(self):
        self.need_packed(leaves("abcde", "abxde"), [0, 1], 8)
        self.need_packed(leaves("abcdefgh", "xbcdefgy"), [0, 1], 14)
        self.need_packed(leaves("abcde", "abcdef"), [0, 1], 8)
        self.need_packed(leaves("abcde", "bcde"), [0, 1], 7)
        self.need_packed(leaves("bcde", "abcde"), [0, 1], 7)

    def test_a_cost_as_great_as_the_number_of_lines(self):
        # One line that is another one costs 3.
        self.need_packed(leaves("abc", "abx"), [0, 0], 6)
        self.need_packed(leaves("abcd", "abcx"), [0, 1], 7)
        # Lines that are gone cost 2.
        self.need_packed(leaves("abcd", "ab"), [0, 0], 6)
        self.need_packed(leaves("abcd", "abc"), [0, 1], 6)
        # Two spans with three lines cost 7.
        self.need_packed(leaves("abcdefg", "xbcdeyz"), [0, 0], 14)
        self.need_packed(leaves("abcdefgh", "xbcdefyz"), [0, 1], 15)

    def test_lines_that_are_there_in_another_order(self):
        # No line is lacking; what counts is what the spans cost all the same.
        self.need_packed(leaves("abcdef", "fedcba"), [0, 0], 12)
        self.need_packed(leaves("abcdef", "defabc"), [0, 0], 12)
        self.need_packed(leaves("abcdef", "bcdefa"), [0, 1], 6 + 5)
        self.need_packed(leaves("aabb", "abab"), [0, 0], 8)

    def test_without_lines(self):
        self.need_packed(leaves("abcd", ""), [0, 0], 4)
        self.need_packed(leaves("", "abcd"), [0, 0], 4)
        self.need_packed(leaves("", "a", "b"), [0, 0, 0], 2)

    def test_the_base_of_least_cost(self):
        # The first one is nearer than the second one, and the other way round.
        self.need_packed(leaves("abcdef", "abcxyz", "abcdeg"), [0, 1, 1], 6 + 5 + 3)
        self.need_packed(leaves("abcdef", "abcxyz", "abcxyg"), [0, 1, 2], 6 + 5 + 3)

    def test_of_several_the_one_taken_last(self):
        # Both cost 3, and the one taken last has a step itself.
        self.need_packed(leaves("abcde", "abcdx", "abcdy"), [0, 1, 2], 5 + 3 + 3)
        # Both halves cost 8, and the one taken last has a step, or has none.
        self.need_packed(leaves("uvwxyz", "abcdef", "abcdeg", "abcdeguvwxyz"), [0, 0, 1, 2], 6 + 6 + 3 + 8)
        self.need_packed(leaves("abcdef", "abcdeg", "uvwxyz", "abcdeguvwxyz"), [0, 1, 0, 1], 6 + 3 + 6 + 8)

    def test_four_steps(self):
        row = ["abcde" + sign for sign in "fghijklmn"]
        self.need_packed(leaves(*row[:4]), [0, 1, 2, 3], 6 + 9)
        self.need_packed(leaves(*row[:5]), [0, 1, 2, 3, 4], 6 + 12)
        # The last one that has fewer than 4 is the fourth one from here on.
        self.need_packed(leaves(*row), [0, 1, 2, 3, 4, 4, 4, 4, 4], 6 + 8 * 3)

    def test_a_near_leaf_of_four_steps_is_no_base(self):
        # Each is near enough to the one ahead of it alone.
        row = ["abcdef", "abcdEF", "abCDEF", "ABCDEF", "ABCDxy", "ABzwxy", "ABzwxq"]
        self.need_packed(leaves(*row[:5]), [0, 1, 2, 3, 4], 6 + 4 * 4)
        self.need_packed(leaves(*row[:6]), [0, 1, 2, 3, 4, 0], 6 + 4 * 4 + 6)
        self.need_packed(leaves(*row), [0, 1, 2, 3, 4, 0, 1], 6 + 4 * 4 + 6 + 3)

    def test_another_order(self):
        rows = [("L1.0", ("leaf", tuple("abcde"))), ("L2.0", ("leaf", tuple("abcdefgh"))), ("L3.0", ("leaf", ()))]
        for order in itertools.permutations(rows):
            self.need_as_told(Base(list(order)), ["L3.0", "L1.0", "L2.0"])

    def test_roots_in_any_order(self):
        shelf = leaves("abcde", "abcdx", "abcdy")
        for roots in itertools.permutations(shelf.names()):
            pack = Pack(shelf, list(roots))
            self.assertEqual([pack.steps(name) for name in shelf.names()], [0, 1, 2])

    def test_only_leaves_of_the_pack_are_bases(self):
        shelf = leaves("abcde", "abcdx", "abcdy")
        names = shelf.names()
        pack = self.need_as_told(shelf, names[1:])
        self.assertEqual([pack.steps(name) for name in names[1:]], [0, 1])
        pack = self.need_as_told(shelf, names[2:])
        self.assertEqual((pack.steps(names[2]), pack.weight()), (0, 5))

    def test_as_the_document_tells(self):
        rows = all_rows(("a", "b"), 4)
        for order in (rows, rows[::-1], rows[::2] + rows[1::2]):
            shelf = leaves(*order)
            self.need_as_told(shelf, shelf.names())
            self.need_as_told(shelf, shelf.names()[::3])

    def test_as_the_document_tells_of_longer_ones(self):
        rows = ["".join(row) for row in itertools.product("ab", "cd", "ef", "gh", "ij", "kl")]
        for order in (rows, rows[::-1], [row[::-1] for row in rows], rows[::7] + rows[::-5] + rows[3::4]):
            shelf = leaves(*order)
            pack = self.need_as_told(shelf, shelf.names())
            self.assertEqual(max(pack.steps(name) for name in shelf.names()), 4)
            self.need_as_told(shelf, shelf.names()[1::2])

    def test_many_long_leaves(self):
        row = [str(number) for number in range(150)]
        rows = []
        for number in range(100):
            row = row[:number] + ["new " + str(number)] + row[number + 1:]
            rows.append(row)
        shelf = leaves(*rows)
        pack = whole(shelf)
        self.assertEqual([pack.steps(name) for name in shelf.names()][:6], [0, 1, 2, 3, 4, 4])
        self.need_read(pack, shelf, shelf.names())


FILES = {
    "a": {"f": A, "g": A},
    "b": {"f": LOW, "g": A},
    "c": {"f": HIGH, "g": A, "d/e/f": ("x",) * 8},
    "d": {"f": BOTH, "d/e/f": ("x",) * 7 + ("y",)},
    "e": {"f": OTHER, "d/e": ("x",) * 8},
    "g": {"f": A + LOW + HIGH},
    "h": {"f": A + LOW + HIGH + A},
}


class Things(PackCase):

    def test_trees_and_notes_have_no_steps(self):
        for shape in SHAPES:
            shelf = filled(shape, FILES)[0]
            pack = whole(shelf)
            for name in shelf.names():
                if shelf.thing(name)[0] != "leaf":
                    self.assertEqual(pack.steps(name), 0)

    def test_trees_and_notes_weigh_nothing(self):
        shelf = leaves("abcde")
        self.assertEqual(whole(shelf).weight(), 5)
        shelf.put(("note", shelf.put(("tree", (("a", shelf.names()[0]),))), (), "some words"))
        self.assertEqual(whole(shelf).weight(), 5)

    def test_leaves_between_trees_and_notes(self):
        shelf = Shelf(None)
        row = ["abcdef", "abcdeg", "abcdeh"]
        version = noted(shelf, {"f": tuple(row[0])}, [], "")
        version = noted(shelf, {"f": tuple(row[1])}, [version], "")
        noted(shelf, {"f": tuple(row[2])}, [version], "")
        self.need_packed(shelf, [0, 1, 2], 6 + 3 + 3)

    def test_as_the_document_tells(self):
        for shape in SHAPES:
            shelf = filled(shape, FILES)[0]
            for store in (shelf, plain(shelf), shaken(shelf), Shelf(shelf), whole(shelf), whole(shaken(shelf))):
                for roots in [[], store.names(), *[[name] for name in store.names()], store.names()[::4]]:
                    self.need_as_told(store, roots)

    def test_a_pack_of_a_pack(self):
        for shape in SHAPES:
            shelf = filled(shape, FILES)[0]
            for root in shelf.names():
                one = Pack(shelf, [root])
                for other in (Pack(one, [root]), Pack(one, one.names()), Pack(Pack(one, [root]), [root])):
                    self.need_read(other, one, one.names())
                    self.assertEqual([other.steps(name) for name in one.names()],
                                     [one.steps(name) for name in one.names()])
                    self.assertEqual(other.weight(), one.weight())

    def test_numbers(self):
        pack = whole(leaves("abcde", "abcdx"))
        for name in pack.names():
            self.assertIs(pack.steps(name).__class__, int)
        self.assertIs(pack.weight().__class__, int)
        self.assertIs(whole(Shelf(None)).weight().__class__, int)
        self.assertIs(pack.names().__class__, list)

    def test_what_is_no_root(self):
        shelf, names = filled(SHAPES[3], FILES)
        for store in (shelf, plain(shelf), whole(shelf)):
            for wrong in no_names(shelf):
                for roots in ([wrong], [names["d"], wrong], [wrong, wrong, names["a"]]):
                    with self.assertRaises(NoName) as caught:
                        Pack(store, roots)
                    self.assertIs(caught.exception.__class__, NoName)
        pack = Pack(shelf, [names["b"]])
        with self.assertRaises(NoName):
            Pack(pack, [names["b"], names["c"]])

    def test_what_is_no_name(self):
        shelf, names = filled(SHAPES[3], FILES)
        pack = Pack(shelf, [names["b"]])
        lost = [name for name in shelf.names() if name not in pack.names()]
        self.assertIn(names["c"], lost)
        for wrong in no_names(shelf) + lost:
            self.assertIs(pack.has(wrong), False)
            for ask in (pack.thing, pack.steps):
                with self.assertRaises(NoName) as caught:
                    ask(wrong)
                self.assertIs(caught.exception.__class__, NoName)
        self.assertEqual(pack.names(), told_reached(shelf, [names["b"]]))

    def test_roots_are_neither_changed_nor_kept(self):
        shelf, names = filled(SHAPES[3], FILES)
        roots = [names["b"], names["a"], names["b"]]
        kept = list(roots)
        pack = Pack(shelf, roots)
        self.assertEqual(roots, kept)
        roots.append(names["d"])
        self.need_read(pack, shelf, told_reached(shelf, kept))

    def test_what_was_told_is_the_askers_own(self):
        shelf = filled(SHAPES[3], FILES)[0]
        pack = whole(shelf)
        names = pack.names()
        kept = list(names)
        things = [pack.thing(name) for name in names]
        steps = [pack.steps(name) for name in names]
        names.clear()
        self.need_read(pack, shelf, kept)
        # Nothing asked later, in whatever order, changes what was told.
        for name in kept[::-1]:
            pack.thing(name)
        self.assertEqual(things, [shelf.thing(name) for name in kept])
        self.assertEqual([pack.steps(name) for name in kept], steps)

    def test_what_is_put_later_is_not_in_the_pack(self):
        shelf, names = filled(SHAPES[3], FILES)
        pack = whole(shelf)
        kept = shelf.names()
        weight = pack.weight()
        steps = [pack.steps(name) for name in kept]
        version = noted(shelf, {"f": A + A, "g": A}, [names["d"]], "later")
        self.need_read(pack, shelf, kept)
        self.assertIs(pack.has(version), False)
        self.assertEqual(pack.weight(), weight)
        self.assertEqual([pack.steps(name) for name in kept], steps)

    def test_a_pack_stands_by_itself(self):
        # Whatever comes of the store later: here it forgets all.
        shelf = filled(SHAPES[3], FILES)[0]
        store = plain(shelf)
        pack = whole(store)
        store.rows.clear()
        self.need_read(pack, shelf, shelf.names())

    def test_packing_puts_nothing(self):
        shelf = filled(SHAPES[3], FILES)[0]
        kept = shelf.names()
        pack = whole(shelf)
        pack.weight()
        self.assertEqual(shelf.names(), kept)


class Along(unittest.TestCase):
    """P4: whatever goes along a store by its names."""

    def test_versions(self):
        for shape in SHAPES:
            shelf, names = filled(shape, FILES)
            for store in (shelf, shaken(shelf)):
                pack = whole(store)
                for name in names.values():
                    for ask in (tree_of, parents_of, words_of, all_before):
                        self.assertEqual(ask(pack, name), ask(store, name))
                for one, other in itertools.product(names.values(), repeat=2):
                    for ask in (is_before, meeting_of, base_of, clashes_of):
                        self.assertEqual(ask(pack, one, other), ask(store, one, other))

    def test_rows(self):
        shelf, names = filled(SHAPES[5], FILES)
        pack = whole(shelf)
        for high in names.values():
            for low in [None] + all_before(shelf, high):
                try:
                    told = row_of(shelf, low, high)
                except ValueError as error:
                    with self.assertRaises(error.__class__):
                        row_of(pack, low, high)
                else:
                    self.assertEqual(row_of(pack, low, high), told)

    def test_trees(self):
        shelf = filled(SHAPES[5], FILES)[0]
        pack = whole(shelf)
        roots = [name for name in shelf.names() if shelf.thing(name)[0] == "tree"]
        for one in roots:
            self.assertEqual(files_of(pack, one), files_of(shelf, one))
            self.assertEqual(list(files_of(pack, one)), list(files_of(shelf, one)))
            for path in ("f", "d", "d/e", "d/e/f", "d/e/f/g", "x"):
                self.assertEqual(found_at(pack, one, path), found_at(shelf, one, path))
            for other in roots:
                told = changes_of(shelf, one, other)
                self.assertEqual(changes_of(pack, one, other), told)
                self.assertEqual(read_rows(pack, told[0]), read_rows(shelf, told[0]))

    def test_as_far_as_it_stays_with_what_is_reached(self):
        for shape in SHAPES:
            shelf, names = filled(shape, FILES)
            for root in names.values():
                pack = Pack(shelf, [root])
                before = all_before(shelf, root)
                self.assertEqual(all_before(pack, root), before)
                for one, other in itertools.product(before, repeat=2):
                    self.assertEqual(meeting_of(pack, one, other), meeting_of(shelf, one, other))
                    self.assertEqual(base_of(pack, one, other), base_of(shelf, one, other))
                for lost in set(names.values()) - set(before):
                    with self.assertRaises(NoVersion):
                        tree_of(pack, lost)
                    with self.assertRaises(NoName):
                        files_of(pack, lost)

    def test_what_is_no_version(self):
        shelf, names = filled(SHAPES[3], FILES)
        pack = whole(shelf)
        for wrong in no_versions(shelf):
            for ask in (lambda: tree_of(pack, wrong), lambda: meeting_of(pack, names["a"], wrong),
                        lambda: row_of(pack, None, wrong)):
                with self.assertRaises(NoVersion):
                    ask()


class Upon(unittest.TestCase):
    """A shelf upon a pack."""

    def test_the_names_that_the_other_shelf_gives(self):
        for shape in SHAPES:
            shelf = filled(shape, FILES)[0]
            uppers = [Shelf(whole(shelf)), Shelf(whole(whole(shelf))), Shelf(whole(Shelf(whole(shelf))))]
            for upper in uppers:
                self.assertEqual(upper.names(), shelf.names())
            for row in all_rows(("a", "b", "c"), 4):
                leaf = shelf.put(("leaf", row))
                tree = shelf.put(("tree", (("a", leaf),)))
                note = shelf.put(("note", tree, (), "".join(row)))
                for upper in uppers:
                    self.assertEqual(upper.put(("leaf", row)), leaf)
                    self.assertEqual(upper.put(("tree", (("a", leaf),))), tree)
                    self.assertEqual(upper.put(("note", tree, (), "".join(row))), note)
            for upper in uppers:
                self.assertEqual(upper.names(), shelf.names())

    def test_upon_a_pack_of_some_names(self):
        # These three have one digest.
        shelf = leaves(["a"], ["am"], ["dq"])
        self.assertEqual(shelf.names(), ["L38.0", "L38.1", "L38.2"])
        upper = Shelf(Pack(shelf, ["L38.0", "L38.2"]))
        self.assertEqual(upper.put(("leaf", ("am",))), "L38.3")
        self.assertEqual(upper.put(("leaf", ("dq",))), "L38.2")
        self.assertEqual(upper.names(), ["L38.0", "L38.2", "L38.3"])
        upper = Shelf(Pack(shelf, ["L38.1"]))
        self.assertEqual(upper.put(("leaf", ("am",))), "L38.1")
        self.assertEqual(upper.put(("leaf", ("dq",))), "L38.2")
        self.assertEqual(upper.put(("leaf", ("a",))), "L38.3")
        upper = Shelf(Pack(shelf, []))
        self.assertEqual(upper.put(("leaf", ("dq",))), "L38.0")

    def test_what_is_not_reached_is_refused(self):
        shelf, names = filled(SHAPES[3], FILES)
        upper = Shelf(Pack(shelf, [names["b"]]))
        kept = upper.names()
        with self.assertRaises(NoName):
            upper.put(("note", tree_of(shelf, names["b"]), (names["c"],), "w"))
        with self.assertRaises(NoName):
            upper.put(("note", tree_of(shelf, names["c"]), (), "w"))
        self.assertEqual(upper.names(), kept)

    def test_a_pack_of_a_shelf_upon_a_pack(self):
        shelf, names = filled(SHAPES[3], FILES)
        upper = Shelf(whole(shelf))
        for store in (shelf, upper):
            noted(store, {"f": A + LOW, "g": A, "h": A + LOW + A}, [names["d"]], "more")
        one = whole(shelf)
        other = whole(upper)
        self.assertEqual(other.names(), one.names())
        self.assertEqual([other.steps(name) for name in one.names()], [one.steps(name) for name in one.names()])
        self.assertEqual(other.weight(), one.weight())

    def test_annals_upon_a_pack(self):
        shape = {"a": "", "b": "a", "c": "b", "s": "a"}
        files = {"a": {"f": A}, "b": {"f": LOW}, "c": {"f": LOW, "g": A}, "s": {"f": HIGH}}
        one = begun(shape, files, {"main": "c", "side": "s"})[0]
        other, names = begun(shape, files, {"main": "c", "side": "s"})
        other.stand_on(Shelf(whole(other.shelf)))
        for annals in (one, other):
            self.assertEqual(join_heads(annals, "main", "side"), "joined")
            annals.begin("again", names["c"])
            self.assertEqual(len(carry_row(annals, "again", names["a"], names["s"])), 2)
            annals.keep("side", {"x": ()}, "later")
        self.assertEqual(other.branches(), one.branches())
        self.assertEqual(other.shelf.names(), one.shelf.names())
        for label, version in one.branches():
            self.assertEqual(unfolded(other.shelf, version), unfolded(one.shelf, version))

    def test_a_long_row(self):
        annals = Annals()
        annals.begin("main", None)
        row = [annals.keep("main", {"f": (str(number % 5),)}, str(number)) for number in range(3000)]
        pack = Pack(annals.shelf, [row[-1]])
        self.assertEqual(pack.names(), annals.shelf.names())
        self.assertEqual(row_of(pack, None, row[-1]), row)

    def test_a_long_row_of_packs(self):
        shelf = leaves("abcde", "abcdx")
        for number in range(50):
            shelf = Shelf(whole(shelf))
            keep_files(shelf, {"f": tuple("abcd" + str(number))})
        self.assertEqual(len(shelf.names()), 102)
        self.assertEqual(shelf.thing(shelf.names()[0]), ("leaf", tuple("abcde")))


if __name__ == "__main__":
    unittest.main()
