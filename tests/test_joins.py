"""Promises J1 to J3, J6 as far as it speaks of lines, and annals.joins as the interface has it."""

import copy
import itertools
import unittest

from samples import all_rows

from annals.joins import clean_lines, groups_of, joined_lines, near_spans, side_lines, turned_parts
from annals.lines import patched, spans_of

X = ("x",)
Y = ("y",)

ROWS = all_rows("ab", 3) + [("a", "b", "c"), ("c", "b", "a"), ("a", "c", "b", "d"), ("a", "b", "c", "d", "e"),
                            ("x", "b", "c", "d", "y"), ("a", "x", "c", "y", "e"), ("b", "d")]
TRIPLES = list(itertools.product(ROWS, repeat=3))


def same(text):
    return ("same", tuple(text))


def clash(base, mine, yours):
    return ("clash", tuple(base), tuple(mine), tuple(yours))


def joined(base, mine, yours):
    """Rows of lines of a sign each, joined."""
    return joined_lines(tuple(base), tuple(mine), tuple(yours))


def all_spans(length):
    """Each row of spans that lines of this length can have, all with one line."""
    ends = [(low, high) for low in range(length + 1) for high in range(low, length + 1)]
    rows = [[]]
    for low, high in ends:
        rows = rows + [row + [(low, high, X)] for row in rows if not row or row[-1][1] < low]
    return rows


def told_groups(ones, others):
    """The groups as J1 has them: sets of spans, made one wherever a span of each is near."""
    groups = [[(0, span)] for span in ones] + [[(1, span)] for span in others]
    again = True
    while again:
        again = False
        for one, other in itertools.combinations(groups, 2):
            if any(a[1][0] <= b[1][1] and b[1][0] <= a[1][1] for a in one for b in other):
                groups.remove(other)
                one.extend(other)
                again = True
                break
    told = [(min(span[0] for side, span in group), max(span[1] for side, span in group),
             sorted(span for side, span in group if side == 0), sorted(span for side, span in group if side == 1))
            for group in groups]
    return sorted(told)


def place_in(spans, low):
    """Where a place of the base that no span begins ahead of and ends at or behind is in a side."""
    return low + sum(len(lines) - (high - start) for start, high, lines in spans if high < low)


def place_behind(spans, high):
    """The same of a place behind all spans that begin there or ahead of it."""
    return high + sum(len(lines) - (end - low) for low, end, lines in spans if low <= high)


def told_parts(base, mine, yours):
    """The parts as J2 and J3 have them, each side's lines read off that side itself."""
    ones = spans_of(base, mine)
    others = spans_of(base, yours)
    rows = []
    place = 0
    for low, high, in_mine, in_yours in told_groups(ones, others):
        my_lines = mine[place_in(ones, low):place_behind(ones, high)]
        your_lines = yours[place_in(others, low):place_behind(others, high)]
        rows.append(("same", base[place:low]))
        if in_mine and in_yours and my_lines != your_lines:
            rows.append(("clash", base[low:high], my_lines, your_lines))
        else:
            rows.append(("same", my_lines if in_mine else your_lines))
        place = high
    rows.append(("same", base[place:]))
    parts = []
    for word, run in itertools.groupby(rows, lambda row: row[0]):
        if word == "clash":
            parts.extend(run)
        else:
            lines = sum([row[1] for row in run], ())
            parts.extend([("same", lines)] if lines else [])
    return parts


class Near(unittest.TestCase):

    def need_near(self, one, other, answer):
        for first, second in ((one, other), (other, one)):
            self.assertIs(near_spans(first + (X,), second + (Y,)), answer, (first, second))

    def test_overlapping(self):
        self.need_near((0, 2), (1, 3), True)
        self.need_near((0, 5), (2, 3), True)
        self.need_near((0, 5), (2, 2), True)
        self.need_near((1, 3), (1, 3), True)
        self.need_near((1, 3), (1, 2), True)
        self.need_near((1, 3), (2, 3), True)

    def test_touching(self):
        self.need_near((0, 2), (2, 3), True)
        self.need_near((0, 1), (1, 2), True)
        self.need_near((1, 1), (1, 1), True)
        self.need_near((1, 1), (1, 4), True)
        self.need_near((4, 4), (1, 4), True)
        self.need_near((0, 0), (0, 1), True)

    def test_apart(self):
        self.need_near((0, 1), (2, 3), False)
        self.need_near((0, 0), (1, 1), False)
        self.need_near((0, 2), (3, 3), False)
        self.need_near((3, 5), (2, 2), False)
        self.need_near((0, 1), (9, 12), False)

    def test_whatever_the_lines_are(self):
        self.assertIs(near_spans((0, 1, ()), (1, 2, ())), True)
        self.assertIs(near_spans((0, 1, X * 9), (2, 3, Y * 9)), False)


class Groups(unittest.TestCase):

    def test_none(self):
        self.assertEqual(groups_of([], []), [])

    def test_of_one_side_alone(self):
        spans = [(0, 0, X), (2, 4, ()), (6, 7, Y)]
        self.assertEqual(groups_of(spans, []), [(0, 0, [(0, 0, X)], []), (2, 4, [(2, 4, ())], []),
                                                (6, 7, [(6, 7, Y)], [])])
        self.assertEqual(groups_of([], spans), [(0, 0, [], [(0, 0, X)]), (2, 4, [], [(2, 4, ())]),
                                                (6, 7, [], [(6, 7, Y)])])

    def test_of_both(self):
        self.assertEqual(groups_of([(1, 3, X)], [(2, 5, Y)]), [(1, 5, [(1, 3, X)], [(2, 5, Y)])])
        self.assertEqual(groups_of([(2, 5, X)], [(1, 3, Y)]), [(1, 5, [(2, 5, X)], [(1, 3, Y)])])
        self.assertEqual(groups_of([(0, 9, X)], [(2, 3, Y)]), [(0, 9, [(0, 9, X)], [(2, 3, Y)])])
        self.assertEqual(groups_of([(1, 2, X)], [(1, 2, X)]), [(1, 2, [(1, 2, X)], [(1, 2, X)])])
        self.assertEqual(groups_of([(1, 1, X)], [(1, 1, Y)]), [(1, 1, [(1, 1, X)], [(1, 1, Y)])])

    def test_touching(self):
        self.assertEqual(groups_of([(0, 1, X)], [(1, 2, Y)]), [(0, 2, [(0, 1, X)], [(1, 2, Y)])])
        self.assertEqual(groups_of([(2, 2, X)], [(1, 2, Y)]), [(1, 2, [(2, 2, X)], [(1, 2, Y)])])

    def test_apart_by_one_line(self):
        self.assertEqual(groups_of([(0, 1, X)], [(2, 3, Y)]), [(0, 1, [(0, 1, X)], []), (2, 3, [], [(2, 3, Y)])])
        self.assertEqual(groups_of([(3, 3, X)], [(2, 2, Y)]), [(2, 2, [], [(2, 2, Y)]), (3, 3, [(3, 3, X)], [])])

    def test_by_way_of_others(self):
        ones = [(0, 2, X), (4, 6, X), (8, 9, X), (11, 11, X)]
        others = [(1, 4, Y), (6, 7, Y), (12, 13, Y)]
        self.assertEqual(groups_of(ones, others), [
            (0, 7, [(0, 2, X), (4, 6, X)], [(1, 4, Y), (6, 7, Y)]),
            (8, 9, [(8, 9, X)], []),
            (11, 11, [(11, 11, X)], []),
            (12, 13, [], [(12, 13, Y)])])
        self.assertEqual(groups_of([(0, 9, X)], [(0, 0, Y), (2, 3, Y), (9, 9, Y), (11, 12, Y)]), [
            (0, 9, [(0, 9, X)], [(0, 0, Y), (2, 3, Y), (9, 9, Y)]), (11, 12, [], [(11, 12, Y)])])

    def test_as_the_document_tells(self):
        rows = all_spans(4)
        for ones, others in itertools.product(rows, repeat=2):
            self.assertEqual(groups_of(ones, others), told_groups(ones, others), (ones, others))

    def test_kinds(self):
        groups = groups_of([(0, 1, X)], [(1, 2, Y), (4, 4, Y)])
        self.assertIs(groups.__class__, list)
        for group in groups:
            self.assertEqual([part.__class__ for part in group], [int, int, list, list])
            self.assertIs(group.__class__, tuple)

    def test_lists_of_the_askers_own(self):
        ones = [(0, 1, X)]
        others = [(1, 2, Y), (4, 4, Y)]
        kept = copy.deepcopy((ones, others))
        groups = groups_of(ones, others)
        told = copy.deepcopy(groups)
        self.assertEqual((ones, others), kept)
        ones.clear()
        others.append("mine")
        self.assertEqual(groups, told)
        groups[0][2].clear()
        groups.pop()
        self.assertEqual(groups_of(*kept), told)


class SideLines(unittest.TestCase):

    def test_without_spans(self):
        self.assertEqual(side_lines(("a", "b", "c", "d"), 1, 3, []), ("b", "c"))
        self.assertEqual(side_lines(("a", "b", "c", "d"), 0, 4, []), ("a", "b", "c", "d"))
        self.assertEqual(side_lines(("a", "b"), 1, 1, []), ())
        self.assertEqual(side_lines((), 0, 0, []), ())

    def test_spans_done(self):
        base = tuple("abcdefg")
        self.assertEqual(side_lines(base, 2, 5, [(2, 5, X)]), X)
        self.assertEqual(side_lines(base, 2, 5, [(3, 4, X)]), ("c", "x", "e"))
        self.assertEqual(side_lines(base, 2, 5, [(2, 2, X)]), ("x", "c", "d", "e"))
        self.assertEqual(side_lines(base, 2, 5, [(5, 5, X)]), ("c", "d", "e", "x"))
        self.assertEqual(side_lines(base, 2, 5, [(2, 3, ()), (4, 5, ("x", "y"))]), ("d", "x", "y"))
        self.assertEqual(side_lines(base, 2, 5, [(2, 5, ())]), ())
        self.assertEqual(side_lines(base, 7, 7, [(7, 7, ("x", "y"))]), ("x", "y"))
        self.assertEqual(side_lines((), 0, 0, [(0, 0, X)]), X)

    def test_the_whole_is_the_side(self):
        for base, mine in itertools.product(ROWS, repeat=2):
            rows = spans_of(base, mine)
            kept = copy.deepcopy(rows)
            lines = side_lines(base, 0, len(base), rows)
            self.assertEqual(lines, mine)
            self.assertIs(lines.__class__, tuple)
            self.assertEqual(rows, kept)


class Parts(unittest.TestCase):

    def test_nothing_changed(self):
        self.assertEqual(joined("abc", "abc", "abc"), [same("abc")])
        self.assertEqual(joined("", "", ""), [])

    def test_one_side_changed(self):
        for base, side in (("abc", "axc"), ("abc", "ac"), ("abc", "xabcy"), ("", "ab"), ("abc", "x"),
                           ("abcde", "xbcdy")):
            self.assertEqual(joined(base, side, base), [same(side)])
            self.assertEqual(joined(base, base, side), [same(side)])

    def test_both_sides_apart(self):
        self.assertEqual(joined("abc", "xbc", "aby"), [same("xby")])
        self.assertEqual(joined("abc", "abcx", "yabc"), [same("yabcx")])
        self.assertEqual(joined("abcde", "axcde", "abcye"), [same("axcye")])
        self.assertEqual(joined("abcde", "acde", "abce"), [same("ace")])
        self.assertEqual(joined("abc", "xabc", "ayc"), [same("xayc")])

    def test_both_sides_alike(self):
        self.assertEqual(joined("abc", "axc", "axc"), [same("axc")])
        self.assertEqual(joined("", "ab", "ab"), [same("ab")])
        self.assertEqual(joined("abcd", "ad", "ad"), [same("ad")])
        self.assertEqual(joined("abcde", "xbcye", "xbcyez"), [same("xbcyez")])
        self.assertEqual(joined("abcb", "bcba", "bcba"), [same("bcba")])

    def test_clashes(self):
        self.assertEqual(joined("abc", "axc", "ayc"), [same("a"), clash("b", "x", "y"), same("c")])
        self.assertEqual(joined("", "x", "y"), [clash("", "x", "y")])
        self.assertEqual(joined("a", "x", "y"), [clash("a", "x", "y")])
        self.assertEqual(joined("a", "x", ""), [clash("a", "x", "")])
        self.assertEqual(joined("a", "", "ay"), [clash("a", "", "ay")])
        self.assertEqual(joined("ab", "axb", "ayb"), [same("a"), clash("", "x", "y"), same("b")])
        self.assertEqual(joined("ab", "xab", "yab"), [clash("", "x", "y"), same("ab")])
        self.assertEqual(joined("ab", "abx", "aby"), [same("ab"), clash("", "x", "y")])

    def test_touching_spans_clash(self):
        self.assertEqual(joined("abcd", "axcd", "abyd"), [same("a"), clash("bc", "xc", "by"), same("d")])
        self.assertEqual(joined("ab", "axb", "ay"), [same("a"), clash("b", "xb", "y")])
        self.assertEqual(joined("ab", "axb", "yb"), [clash("a", "ax", "y"), same("b")])
        self.assertEqual(joined("abcd", "acd", "abd"), [same("a"), clash("bc", "c", "b"), same("d")])

    def test_apart_by_one_line(self):
        self.assertEqual(joined("abc", "xbc", "aby"), [same("xby")])
        self.assertEqual(joined("abcd", "axcd", "abcy"), [same("axcy")])
        self.assertEqual(joined("ab", "xab", "ayb"), [same("xayb")])

    def test_a_group_by_way_of_others(self):
        self.assertEqual(joined("abcdefg", "xyzdefg", "abvwefg"), [clash("abcd", "xyzd", "abvw"), same("efg")])
        self.assertEqual(joined("abcdef", "axydzf", "abuvwf"),
                         [same("a"), clash("bcde", "xydz", "buvw"), same("f")])

    def test_several_clashes(self):
        self.assertEqual(joined("abcde", "xbcdy", "ubcdv"), [clash("a", "x", "u"), same("bcd"), clash("e", "y", "v")])
        self.assertEqual(joined("abc", "xby", "ubv"), [clash("a", "x", "u"), same("b"), clash("c", "y", "v")])

    def test_all_gone(self):
        self.assertEqual(joined("abc", "", "abc"), [])
        self.assertEqual(joined("abc", "abc", ""), [])
        self.assertEqual(joined("abc", "", ""), [])
        self.assertEqual(joined("abc", "bc", "ab"), [same("b")])

    def test_lines_gone_beside_a_clash(self):
        self.assertEqual(joined("abc", "bx", "aby"), [same("b"), clash("c", "x", "y")])
        self.assertEqual(joined("abc", "xb", "yb"), [clash("a", "x", "y"), same("b")])
        self.assertEqual(joined("ab", "b", "axb"), [clash("a", "", "ax"), same("b")])

    def test_same_parts_side_by_side_are_one(self):
        self.assertEqual(joined("abcdefg", "axcdefg", "abcdyfg"), [same("axcdyfg")])
        self.assertEqual(joined("abcdefg", "acdefg", "abcdfg"), [same("acdfg")])
        self.assertEqual(joined("abcdefg", "bcdxfg", "abcdyfz"), [same("bcd"), clash("e", "x", "y"), same("fz")])

    def test_lines_as_wholes(self):
        self.assertEqual(joined_lines(("one", "", "two"), ("one", "", "2"), ("1", "", "two")), [("same", ("1", "", "2"))])
        self.assertEqual(joined_lines(("",), ("", ""), ()), [("clash", ("",), ("", ""), ())])

    def test_lines_somewhat_beyond_the_bound(self):
        line = "a" * 30
        self.assertEqual(joined_lines(("b", "c", "d"), (line, "c", "d"), ("b", "c", line)),
                         [("same", (line, "c", line))])
        self.assertEqual(side_lines(("b",), 0, 1, [(0, 1, (line,))]), (line,))

    def test_as_the_document_tells(self):
        for base, mine, yours in TRIPLES:
            self.assertEqual(joined_lines(base, mine, yours), told_parts(base, mine, yours), (base, mine, yours))

    def test_kinds(self):
        for base, mine, yours in TRIPLES:
            parts = joined_lines(base, mine, yours)
            self.assertIs(parts.__class__, list)
            for part in parts:
                self.assertIs(part.__class__, tuple)
                self.assertEqual(len(part), {"same": 2, "clash": 4}[part[0]])
                self.assertEqual({lines.__class__ for lines in part[1:]}, {tuple})

    def test_a_list_of_the_askers_own(self):
        parts = joined("abc", "axc", "ayc")
        parts.clear()
        self.assertEqual(joined("abc", "axc", "ayc"), [same("a"), clash("b", "x", "y"), same("c")])

    def test_long_rows(self):
        base = tuple("line " + str(number) for number in range(300))
        mine = tuple(line + "m" if place % 20 == 0 else line for place, line in enumerate(base))
        yours = tuple(line + "y" if place % 20 == 10 else line for place, line in enumerate(base))
        both = tuple(mine[place] if mine[place] != line else yours[place] for place, line in enumerate(base))
        self.assertEqual(joined_lines(base, mine, yours), [("same", both)])


class OtherSides(unittest.TestCase):

    def test_exchanged(self):
        for base, mine, yours in TRIPLES:
            self.assertEqual(joined_lines(base, yours, mine), turned_parts(joined_lines(base, mine, yours)))

    def test_one_side_as_the_base(self):
        for base, side in itertools.product(ROWS, repeat=2):
            for parts in (joined_lines(base, base, side), joined_lines(base, side, base)):
                self.assertEqual(parts, [("same", side)] if side else [])

    def test_what_clashes_is_unlike_all_round(self):
        clashes = [part for triple in TRIPLES for part in joined_lines(*triple) if part[0] == "clash"]
        self.assertGreater(len(clashes), 100)
        for part in clashes:
            self.assertEqual(len(set(part[1:])), 3, part)


class Clean(unittest.TestCase):

    def test_without_a_clash(self):
        self.assertEqual(clean_lines([]), ())
        self.assertEqual(clean_lines([same("abc")]), ("a", "b", "c"))
        self.assertEqual(clean_lines([("same", ("",))]), ("",))
        self.assertEqual(clean_lines([same("ab"), same("c")]), ("a", "b", "c"))

    def test_with_a_clash(self):
        self.assertIsNone(clean_lines([clash("a", "b", "c")]))
        self.assertIsNone(clean_lines([same("a"), clash("", "b", "c")]))
        self.assertIsNone(clean_lines([clash("a", "", "c"), same("a")]))
        self.assertIsNone(clean_lines([same("a"), clash("a", "b", ""), same("a"), clash("a", "b", "c"), same("b")]))

    def test_of_joins(self):
        for base, mine, yours in TRIPLES:
            parts = joined_lines(base, mine, yours)
            kept = copy.deepcopy(parts)
            lines = clean_lines(parts)
            self.assertEqual(parts, kept)
            if any(part[0] == "clash" for part in parts):
                self.assertIsNone(lines)
            else:
                self.assertEqual(lines, sum([part[1] for part in parts], ()))
                self.assertIs(lines.__class__, tuple)

    def test_far_apart_each_span_is_done(self):
        base = tuple("abcdefghij")
        lines = clean_lines(joined_lines(base, patched(base, [(0, 1, X), (4, 4, X)]), patched(base, [(7, 9, ())])))
        self.assertEqual(lines, tuple("xbcdxefgj"))


class Turned(unittest.TestCase):

    def test_parts_turned(self):
        parts = [same("a"), clash("b", "x", "y"), same("c"), clash("", "", "z")]
        kept = copy.deepcopy(parts)
        turned = turned_parts(parts)
        self.assertEqual(turned, [same("a"), clash("b", "y", "x"), same("c"), clash("", "z", "")])
        self.assertEqual(parts, kept)
        self.assertEqual(turned_parts(turned), parts)
        self.assertEqual(turned_parts([]), [])

    def test_a_list_of_the_askers_own(self):
        parts = [same("a"), same("b")]
        turned = turned_parts(parts)
        turned.clear()
        self.assertEqual(parts, [same("a"), same("b")])
        turned = turned_parts(parts)
        parts.clear()
        self.assertEqual(turned, [same("a"), same("b")])


if __name__ == "__main__":
    unittest.main()
