"""Promises C1 to C4, and annals.lines as the interface has it."""

import itertools
import unittest

from samples import NO_TEXTS, all_rows

from annals.errors import NoFit
from annals.lines import common_table, cost_of, kept_pairs, patched, spans_of

ROWS = all_rows("ab", 4) + all_rows("abc", 3)
PAIRS = [(old, new) for old in ROWS for new in ROWS]

LONG = tuple("line " + str(number * number % 17) for number in range(60))
LONG_PAIRS = [(LONG, LONG[20:]), (LONG[:40], LONG), (LONG, LONG[:10] + ("new", "new") + LONG[13:50]),
              (LONG[::-1], LONG), (LONG[30:] + LONG[:30], LONG)]


def parts_within(row):
    """Each row that stands, in its order, within a row."""
    return {part for count in range(len(row) + 1) for part in itertools.combinations(row, count)}


def common_length(old, new):
    """How long the common row is: of all rows within both the longest."""
    return max(len(part) for part in parts_within(old) & parts_within(new))


class Table(unittest.TestCase):

    def test_the_whole_table(self):
        self.assertEqual(common_table(("a", "b", "a", "c"), ("b", "a", "a")), [
            [2, 2, 1, 0],
            [2, 1, 1, 0],
            [1, 1, 1, 0],
            [0, 0, 0, 0],
            [0, 0, 0, 0]])
        self.assertEqual(common_table(("x", "x"), ("x", "x", "x")), [[2, 2, 1, 0], [1, 1, 1, 0], [0, 0, 0, 0]])

    def test_lines_are_held_against_each_other_whole(self):
        self.assertEqual(common_table(("ab", "", "a"), ("a", "")), [[1, 1, 0], [1, 1, 0], [1, 0, 0], [0, 0, 0]])

    def test_as_the_document_counts(self):
        for old, new in PAIRS:
            table = common_table(old, new)
            self.assertEqual(table, [[common_length(old[i:], new[k:]) for k in range(len(new) + 1)]
                                     for i in range(len(old) + 1)], (old, new))

    def test_empty_rows(self):
        self.assertEqual(common_table((), ()), [[0]])
        self.assertEqual(common_table((), ("a", "b")), [[0, 0, 0]])
        self.assertEqual(common_table(("a", "b"), ()), [[0], [0], [0]])

    def test_lists_of_the_askers_own(self):
        told = common_table(("a", "b"), ("c",))
        before = [list(row) for row in told]
        told[0][0] = 99
        self.assertEqual(told[1:], before[1:])
        self.assertEqual(told[0][1:], before[0][1:])
        told[1].append(7)
        told.pop()
        self.assertEqual(common_table(("a", "b"), ("c",)), before)
        self.assertEqual(kept_pairs(("a", "b"), ("c",)), [])


class Kept(unittest.TestCase):

    def test_the_old_line_is_left_first_where_both_are_as_long(self):
        self.assertEqual(kept_pairs(("a", "b"), ("b", "a")), [(1, 0)])
        self.assertEqual(kept_pairs(("b", "a"), ("a", "b")), [(1, 0)])
        self.assertEqual(kept_pairs(("a", "b", "c"), ("c", "b", "a")), [(2, 0)])
        self.assertEqual(kept_pairs(("x", "a", "y", "b"), ("b", "p", "a", "q")), [(3, 0)])

    def test_the_new_line_is_left_where_the_row_is_shorter_else(self):
        self.assertEqual(kept_pairs(("a", "b", "c"), ("c", "a", "b")), [(0, 1), (1, 2)])
        self.assertEqual(kept_pairs(("a",), ("b", "a")), [(0, 1)])

    def test_lines_alike_are_kept_at_once(self):
        self.assertEqual(kept_pairs(("a",), ("a", "a", "a")), [(0, 0)])
        self.assertEqual(kept_pairs(("a", "a", "a"), ("a",)), [(0, 0)])
        self.assertEqual(kept_pairs(("a", "b", "a"), ("a", "a")), [(0, 0), (2, 1)])
        self.assertEqual(kept_pairs(("b", "a", "b"), ("a", "b", "b")), [(1, 0), (2, 1)])

    def test_rows_turned_about(self):
        self.assertEqual(kept_pairs(("a", "b", "c", "d"), ("b", "a", "d", "c")), [(1, 0), (3, 2)])
        self.assertEqual(kept_pairs(("b", "a", "d", "c"), ("a", "b", "c", "d")), [(1, 0), (3, 2)])
        # The second row is not the first one turned about: in each the old line is left first.
        self.assertEqual(kept_pairs(("a", "a", "b"), ("b", "a")), [(2, 0)])
        self.assertEqual(kept_pairs(("b", "a"), ("a", "a", "b")), [(1, 0)])

    def test_empty_rows(self):
        self.assertEqual(kept_pairs((), ()), [])
        self.assertEqual(kept_pairs((), ("a",)), [])
        self.assertEqual(kept_pairs(("a", "b"), ()), [])

    def test_equal_rows(self):
        for row in ROWS + [LONG]:
            self.assertEqual(kept_pairs(row, tuple(row)), [(place, place) for place in range(len(row))])

    def test_rows_without_a_line_in_common(self):
        self.assertEqual(kept_pairs(("a", "b"), ("c", "", "ab")), [])

    def test_as_the_document_goes(self):
        for old, new in PAIRS:
            self.assertEqual(kept_pairs(old, new), pairs_by_the_document(old, new), (old, new))

    def test_they_are_a_longest_common_row(self):
        for old, new in PAIRS:
            pairs = kept_pairs(old, new)
            self.assertEqual(len(pairs), common_length(old, new))
            self.assertTrue(all(old[i] == new[k] for i, k in pairs))
            self.assertEqual([i for i, k in pairs], sorted({i for i, k in pairs}))
            self.assertEqual([k for i, k in pairs], sorted({k for i, k in pairs}))

    def test_pairs_are_tuples_in_a_list_of_the_askers_own(self):
        told = kept_pairs(("a", "b"), ("a", "b"))
        self.assertIs(told.__class__, list)
        self.assertTrue(all(pair.__class__ is tuple for pair in told))
        told.clear()
        self.assertEqual(kept_pairs(("a", "b"), ("a", "b")), [(0, 0), (1, 1)])


def pairs_by_the_document(old, new, i=0, k=0):
    """C2 word by word, without a table."""
    if i == len(old) or k == len(new):
        return []
    if old[i] == new[k]:
        return [(i, k)] + pairs_by_the_document(old, new, i + 1, k + 1)
    if common_length(old[i + 1:], new[k:]) >= common_length(old[i:], new[k + 1:]):
        return pairs_by_the_document(old, new, i + 1, k)
    return pairs_by_the_document(old, new, i, k + 1)


class Spans(unittest.TestCase):

    def test_at_the_front(self):
        self.assertEqual(spans_of(("a", "b"), ("x", "a", "b")), [(0, 0, ("x",))])
        self.assertEqual(spans_of(("a", "b"), ("b",)), [(0, 1, ())])
        self.assertEqual(spans_of(("a", "b"), ("x", "y", "b")), [(0, 1, ("x", "y"))])

    def test_in_the_middle(self):
        self.assertEqual(spans_of(("a", "b"), ("a", "x", "b")), [(1, 1, ("x",))])
        self.assertEqual(spans_of(("a", "b", "c"), ("a", "c")), [(1, 2, ())])
        self.assertEqual(spans_of(("a", "b", "c"), ("a", "x", "", "c")), [(1, 2, ("x", ""))])

    def test_at_the_end(self):
        self.assertEqual(spans_of(("a", "b"), ("a", "b", "x")), [(2, 2, ("x",))])
        self.assertEqual(spans_of(("a", "b"), ("a",)), [(1, 2, ())])
        self.assertEqual(spans_of(("a", "b"), ("a", "x")), [(1, 2, ("x",))])

    def test_at_several_places(self):
        self.assertEqual(spans_of(("a", "b", "c", "d", "e"), ("x", "b", "d", "y", "e", "z")),
                         [(0, 1, ("x",)), (2, 3, ()), (4, 4, ("y",)), (5, 5, ("z",))])

    def test_from_and_to_nothing(self):
        self.assertEqual(spans_of((), ("a", "b")), [(0, 0, ("a", "b"))])
        self.assertEqual(spans_of(("a", "b"), ()), [(0, 2, ())])
        self.assertEqual(spans_of(("a", "b"), ("x",)), [(0, 2, ("x",))])

    def test_none_between_a_row_and_itself(self):
        for row in ROWS + [LONG]:
            self.assertEqual(spans_of(row, tuple(row)), [])

    def test_done_to_the_old_row_they_give_the_new_one(self):
        for old, new in PAIRS + LONG_PAIRS:
            done = patched(old, spans_of(old, new))
            self.assertEqual(done, new)
            self.assertIs(done.__class__, tuple)

    def test_they_are_what_lies_between_the_kept_pairs(self):
        for old, new in PAIRS + LONG_PAIRS:
            pairs = [(-1, -1)] + kept_pairs(old, new) + [(len(old), len(new))]
            gaps = [(one[0] + 1, other[0], new[one[1] + 1:other[1]]) for one, other in zip(pairs, pairs[1:])]
            self.assertEqual(spans_of(old, new), [gap for gap in gaps if gap[0] < gap[1] or gap[2]])

    def test_an_old_line_is_kept_between_each_two(self):
        for old, new in PAIRS + LONG_PAIRS:
            spans = spans_of(old, new)
            for one, other in zip(spans, spans[1:]):
                self.assertLess(one[1], other[0])

    def test_tuples_in_a_list_of_the_askers_own(self):
        told = spans_of(("a", "b"), ("a", "x"))
        self.assertIs(told.__class__, list)
        self.assertIs(told[0].__class__, tuple)
        self.assertIs(told[0][2].__class__, tuple)
        told.append("more")
        self.assertEqual(spans_of(("a", "b"), ("a", "x")), [(1, 2, ("x",))])


class Patches(unittest.TestCase):

    old = ("a", "b", "c", "d")

    def test_no_rows(self):
        self.assertEqual(patched(self.old, []), self.old)
        self.assertEqual(patched((), []), ())
        self.assertIs(patched((), []).__class__, tuple)

    def test_one_row(self):
        self.assertEqual(patched(self.old, [(0, 0, ("x",))]), ("x", "a", "b", "c", "d"))
        self.assertEqual(patched(self.old, [(1, 3, ("x",))]), ("a", "x", "d"))
        self.assertEqual(patched(self.old, [(1, 2, ())]), ("a", "c", "d"))
        self.assertEqual(patched(self.old, [(4, 4, ("x", "y"))]), ("a", "b", "c", "d", "x", "y"))
        self.assertEqual(patched(self.old, [(0, 4, ())]), ())
        self.assertEqual(patched((), [(0, 0, ("x",))]), ("x",))

    def test_several_rows(self):
        self.assertEqual(patched(self.old, [(0, 0, ("x",)), (1, 2, ()), (3, 3, ("y", "z")), (4, 4, ("",))]),
                         ("x", "a", "c", "y", "z", "d", ""))
        self.assertEqual(patched(self.old, [(0, 1, ()), (2, 4, ())]), ("b",))

    def test_what_stood_there_is_not_looked_at(self):
        self.assertEqual(patched(("p", "q"), [(0, 1, ("p",))]), ("p", "q"))
        self.assertEqual(patched(("p", "q"), spans_of(("a", "b"), ("a", "x"))), ("p", "x"))

    def test_what_is_handed_in_is_not_changed(self):
        rows = [(0, 0, ("x",)), (1, 2, ())]
        patched(self.old, rows)
        cost_of(rows)
        self.assertEqual(rows, [(0, 0, ("x",)), (1, 2, ())])

    def need_refused(self, rows, old=old):
        before = list(rows)
        with self.assertRaises(NoFit):
            patched(old, rows)
        self.assertEqual(len(rows), len(before))
        self.assertTrue(all(one is other for one, other in zip(rows, before)))

    def test_a_low_end_below_nought(self):
        self.need_refused([(-1, 0, ("x",))])
        self.need_refused([(-1, 2, ("x",))])
        self.need_refused([(-1, -1, ("x",))])
        self.need_refused([(-4, -2, ())])

    def test_a_low_end_beyond_the_high_end(self):
        self.need_refused([(2, 1, ("x",))])
        self.need_refused([(1, 0, ())])
        self.need_refused([(4, 0, ("x",))])
        self.need_refused([(0, 1, ("x",)), (3, 2, ("x",))])

    def test_a_high_end_beyond_the_old_row(self):
        self.need_refused([(3, 5, ("x",))])
        self.need_refused([(5, 5, ("x",))])
        self.need_refused([(0, 1, ()), (2, 9, ())])
        self.need_refused([(0, 1, ())], ())
        self.need_refused([(1, 1, ("x",))], ())

    def test_something_else_than_lines(self):
        for wrong in NO_TEXTS + ("", "x", ["x"], ("x", 1), (None,), (("x",),), ("x\n",), ("x" * 21,), ("5%",)):
            if wrong.__class__ is tuple and wrong in ((), ("a",)):
                continue
            with self.subTest(kind=str(wrong.__class__)):
                self.need_refused([(1, 2, wrong)])
                self.need_refused([(1, 1, wrong)])
                self.need_refused([(0, 0, ("x",)), (1, 2, wrong)])
                self.need_refused([(0, 0, wrong), (1, 2, ("x",))])

    def test_no_lines_where_low_is_high(self):
        for place in range(5):
            self.need_refused([(place, place, ())])
        self.need_refused([(0, 1, ()), (2, 2, ())])
        self.need_refused([(0, 0, ()), (2, 3, ())])

    def test_a_low_end_not_beyond_the_high_end_ahead(self):
        self.need_refused([(0, 1, ("x",)), (1, 2, ("y",))])
        self.need_refused([(1, 1, ("x",)), (1, 1, ("y",))])
        self.need_refused([(0, 3, ("x",)), (1, 2, ("y",))])
        self.need_refused([(2, 3, ("x",)), (0, 1, ("y",))])
        self.need_refused([(0, 0, ("x",)), (0, 1, ())])
        self.need_refused([(0, 0, ("x",)), (2, 3, ()), (3, 4, ())])
        self.assertEqual(patched(self.old, [(0, 1, ("x",)), (2, 2, ("y",))]), ("x", "b", "y", "c", "d"))

    def test_each_row_alone(self):
        for low in range(-2, 7):
            for high in range(-2, 7):
                for lines in ((), ("x",), ("x", "y")):
                    good = 0 <= low <= high <= 4 and (low < high or len(lines) > 0)
                    with self.subTest(low=low, high=high, lines=lines):
                        if good:
                            self.assertEqual(patched(self.old, [(low, high, lines)]),
                                             self.old[:low] + lines + self.old[high:])
                        else:
                            self.need_refused([(low, high, lines)])


class Cost(unittest.TestCase):

    def test_two_for_each_and_one_for_each_line(self):
        self.assertEqual(cost_of([]), 0)
        self.assertEqual(cost_of([(0, 5, ())]), 2)
        self.assertEqual(cost_of([(3, 3, ("x",))]), 3)
        self.assertEqual(cost_of([(0, 0, ("x", "", "y")), (2, 9, ()), (10, 12, ("z",))]), 10)

    def test_of_the_spans_between_two_rows(self):
        self.assertEqual(cost_of(spans_of(("a", "b"), ("a", "b"))), 0)
        self.assertEqual(cost_of(spans_of(("a", "b", "c"), ("x", "b", "y", "z"))), 7)


if __name__ == "__main__":
    unittest.main()
