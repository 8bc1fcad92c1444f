"""Promises T1 to T4, and annals.things as the interface has it."""

import copy
import unittest

from samples import GOOD_LEAVES, GOOD_NOTES, GOOD_THINGS, GOOD_TREES, NO_LINES, NO_TEXTS, NO_THINGS

from annals.errors import AnnalsError, BadLine, NoName, NoThing
from annals.things import digest, is_label, is_line, is_lines, names_in, need_thing, spelled


class Lines(unittest.TestCase):

    def test_texts_of_0_to_20_signs_are_lines(self):
        for line in ("", "a", "a" * 19, "a" * 20, " " * 20, "~" * 20):
            with self.subTest(line):
                self.assertIs(is_line(line), True)

    def test_a_text_of_more_signs_is_no_line(self):
        for line in ("a" * 21, " " * 21, "a" * 1000):
            with self.subTest(line):
                self.assertIs(is_line(line), False)

    def test_each_ascii_sign_is_told_apart(self):
        for number in range(128):
            with self.subTest(number):
                good = 32 <= number <= 126 and number != 37
                self.assertIs(is_line(chr(number)), good)
                self.assertIs(is_line("ab" + chr(number) + "c"), good)

    def test_signs_beyond_ascii_are_in_no_line(self):
        for line in ("\x80", "\xa0", "\u00e9", "a\u0301", "\u2028", "\U0001f600", "\ud800"):
            with self.subTest(ascii(line)):
                self.assertIs(is_line(line), False)

    def test_a_line_feed_at_the_end_is_seen(self):
        self.assertIs(is_line("abc\n"), False)

    def test_what_is_no_text_is_no_line(self):
        for thing in NO_TEXTS:
            with self.subTest(kind=str(thing.__class__)):
                self.assertIs(is_line(thing), False)

    def test_tuples_of_lines_are_lines(self):
        for lines in ((), ("",), ("", "a", ""), ("a", "a"), ("a" * 20,) * 500):
            with self.subTest(lines):
                self.assertIs(is_lines(lines), True)

    def test_a_tuple_with_one_that_is_no_line_is_no_lines(self):
        for wrong in NO_LINES:
            for lines in ((wrong,), ("a", wrong), (wrong, "a"), ("a", wrong, "b")):
                with self.subTest(kind=str(wrong.__class__)):
                    self.assertIs(is_lines(lines), False)

    def test_what_is_no_tuple_is_no_lines(self):
        for thing in (None, [], ["a"], "", "abc", {}, {"a": 1}, {"a"}, 3, True, iter(("a",))):
            with self.subTest(kind=str(thing.__class__)):
                self.assertIs(is_lines(thing), False)


class Labels(unittest.TestCase):

    def test_texts_of_1_to_8_small_letters_are_labels(self):
        for label in ("a", "z", "main", "abcdefgh", "zzzzzzzz"):
            with self.subTest(label):
                self.assertIs(is_label(label), True)

    def test_too_short_and_too_long(self):
        for label in ("", "abcdefghi", "a" * 100):
            with self.subTest(label):
                self.assertIs(is_label(label), False)

    def test_each_ascii_sign_is_told_apart(self):
        for number in range(128):
            with self.subTest(number):
                good = 97 <= number <= 122
                self.assertIs(is_label(chr(number)), good)
                self.assertIs(is_label("a" + chr(number) + "b"), good)

    def test_letters_beyond_ascii_are_in_no_label(self):
        for label in ("\u00e9", "\u00df", "\u017f", "\u0430", "a\u0301"):
            with self.subTest(ascii(label)):
                self.assertIs(is_label(label), False)

    def test_what_is_no_text_is_no_label(self):
        for thing in NO_TEXTS:
            with self.subTest(kind=str(thing.__class__)):
                self.assertIs(is_label(thing), False)


class Forms(unittest.TestCase):

    def test_good_things_are_given_back(self):
        for thing in GOOD_THINGS:
            with self.subTest(thing):
                self.assertEqual(need_thing(thing), copy.deepcopy(thing))

    def test_what_is_no_thing_is_refused(self):
        for place, thing in enumerate(NO_THINGS):
            with self.subTest(place=place):
                with self.assertRaises(NoThing):
                    need_thing(thing)

    def test_what_is_handed_in_is_not_changed(self):
        inner = ["a"]
        with self.assertRaises(NoThing):
            need_thing(("leaf", inner))
        self.assertEqual(inner, ["a"])

    def test_the_refusal_is_no_other_one(self):
        with self.assertRaises(AnnalsError) as caught:
            need_thing(("leaf", []))
        self.assertIsInstance(caught.exception, ValueError)
        self.assertIs(caught.exception.__class__, NoThing)
        self.assertNotIsInstance(caught.exception, (NoName, BadLine))


class Spelling(unittest.TestCase):

    def test_the_examples_of_the_document(self):
        self.assertEqual(spelled(("leaf", ("ab", ""))), "L2:ab0:")
        self.assertEqual(spelled(("note", "T5.0", (), "x")), "N4:T5.01:01:x")

    def test_leaves(self):
        self.assertEqual(spelled(("leaf", ())), "L")
        self.assertEqual(spelled(("leaf", ("",))), "L0:")
        self.assertEqual(spelled(("leaf", ("1:a", "a" * 20))), "L3:1:a20:" + "a" * 20)

    def test_trees(self):
        self.assertEqual(spelled(("tree", ())), "T")
        self.assertEqual(spelled(("tree", (("a", "L38.0"), ("bc", "")))), "T1:a5:L38.02:bc0:")

    def test_notes(self):
        self.assertEqual(spelled(("note", "T84.0", ("N4.0",), "")), "N5:T84.01:14:N4.00:")
        self.assertEqual(spelled(("note", "T84.0", ("N9.0", "N4.10"), "a b")),
                         "N5:T84.01:24:N9.05:N4.103:a b")

    def test_unlike_things_are_spelled_unlike(self):
        things = list(GOOD_THINGS) + [
            ("leaf", ("abc",)), ("leaf", ("a", "bc")), ("leaf", ("ab", "c")), ("leaf", ("a", "b", "c")),
            ("leaf", ("", "abc")), ("leaf", ("abc", "")), ("leaf", ("1:a",)), ("leaf", ("1", "a")),
            ("leaf", ("a1:b",)), ("leaf", ("a", "b")), ("leaf", ("b", "a")), ("leaf", ("a", "x")),
            ("tree", (("a", "x"),)), ("tree", (("a", "x1:by"),)), ("tree", (("a", "x"), ("b", "y"))),
            ("tree", (("a", "y"), ("b", "x"))),
            ("note", "t", (), "x"), ("note", "t", ("x",), ""), ("note", "t", ("p",), "x"),
            ("note", "t", ("p", "x"), ""), ("note", "t", ("x", "p"), ""), ("note", "t", ("p", ""), "x"),
            ("note", "p", ("t",), "x"), ("note", "t1", (), "x"), ("note", "t", ("0",), ""),
        ]
        self.assertEqual(len({spelled(thing) for thing in things}), len(set(things)))


class Digests(unittest.TestCase):

    def test_of_each_form(self):
        self.assertEqual(digest(("leaf", ())), 76)
        self.assertEqual(digest(("leaf", ("a",))), 38)
        self.assertEqual(digest(("leaf", ("ab", ""))), 42)
        self.assertEqual(digest(("tree", ())), 84)
        self.assertEqual(digest(("tree", (("a", "L38.0"),))), 62)
        self.assertEqual(digest(("note", "T5.0", (), "x")), 4)
        self.assertEqual(digest(("note", "T84.0", (), "")), 85)

    def test_as_the_document_counts(self):
        for thing in GOOD_THINGS:
            with self.subTest(thing):
                signs = spelled(thing)
                # Left by 97 once, at the end, instead of sign by sign.
                whole = sum(ord(sign) * 31 ** (len(signs) - 1 - place) for place, sign in enumerate(signs))
                self.assertEqual(digest(thing), whole % 97)

    def test_unlike_things_of_one_digest(self):
        self.assertEqual([digest(("leaf", (line,))) for line in ("a", "am", "dq")], [38, 38, 38])
        self.assertEqual([digest(("tree", ((label, "L76.0"),))) for label in ("a", "bl")], [31, 31])
        self.assertEqual([digest(("note", "T84.0", (), words)) for words in ("", "bt")], [85, 85])

    def test_both_ends_of_the_range(self):
        found = {digest(("leaf", (chr(one) + chr(other),))) for one in range(97, 123) for other in range(97, 123)}
        self.assertEqual(found, set(range(97)))


class NamesWithin(unittest.TestCase):

    def test_leaves_have_none(self):
        for leaf in GOOD_LEAVES:
            self.assertEqual(names_in(leaf), [])

    def test_trees_have_those_of_their_rows(self):
        self.assertEqual(names_in(("tree", ())), [])
        self.assertEqual(names_in(("tree", (("a", "y"), ("b", "x"), ("c", "y")))), ["y", "x", "y"])

    def test_notes_have_the_tree_then_the_parents(self):
        self.assertEqual(names_in(("note", "t", (), "w")), ["t"])
        self.assertEqual(names_in(("note", "t", ("q",), "w")), ["t", "q"])
        self.assertEqual(names_in(("note", "t", ("q", "p"), "w")), ["t", "q", "p"])

    def test_the_list_is_the_askers_own(self):
        for thing in (GOOD_LEAVES[0], GOOD_TREES[1], GOOD_NOTES[2]):
            with self.subTest(thing):
                first = names_in(thing)
                before = list(first)
                first.append("more")
                self.assertEqual(names_in(thing), before)


if __name__ == "__main__":
    unittest.main()
