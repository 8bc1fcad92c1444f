"""Promises D1 to D5, and annals.desk as the interface has it."""

import unittest

from samples import BAD_PATHS, GOOD_PATHS, NO_LABELS, NO_LINES, AnnalsCase, state

from annals.desk import Desk
from annals.moves import join_heads
from annals.shelf import Shelf
from annals.versions import Annals, noted


def texts_of(things):
    """Those that can stand in a line: texts, without the sign that is in no text."""
    return [thing for thing in things if isinstance(thing, str) and "%" not in thing]


def whole(desk):
    """All that a desk has."""
    return state(desk.annals), desk.files(), desk.at_branch()


class DeskCase(AnnalsCase):

    def setUp(self):
        self.desk = Desk()

    def give(self, line, *answer):
        told = self.desk.answer(line)
        self.assertEqual(told, list(answer), line)
        self.assertIs(told.__class__, list)

    def refuse(self, line, *answer):
        """The line is answered so, and changes nothing."""
        kept = whole(self.desk)
        self.give(line, *answer)
        self.assertEqual(whole(self.desk), kept, line)

    def put(self, **files):
        """Lines of a sign each, by labels."""
        for label, signs in files.items():
            self.give("put " + label + " " + "|".join(signs))

    def keep(self, count, **files):
        """These files put and kept, as a version to which so many lead."""
        self.put(**files)
        self.give("keep w", "kept " + str(count))

    def branches_at(self):
        """The branches, with the files of the versions at which they are."""
        return {label: None if version is None else self.desk.annals.files(version)
                for label, version in self.desk.annals.branches()}

    def need_files(self, **files):
        self.assertEqual(self.desk.files(), {label: tuple(signs) for label, signs in files.items()})

    def need_branch_files(self, **files):
        """The working files are these, and those of the branch's version."""
        self.need_files(**files)
        self.assertEqual(self.branches_at()[self.desk.at_branch()], self.desk.files())


ALONE = ("log", "changes", "pack")
WITH_REST = ("put", "cut", "show", "keep", "branch", "go", "join", "carry", "compare")


class Lines(DeskCase):
    """D1."""

    def test_at_first(self):
        self.assertEqual(self.desk.annals.branches(), [("main", None)])
        self.assertEqual(self.desk.annals.shelf.names(), [])
        self.assertIs(self.desk.annals.__class__, Annals)
        self.assertEqual(self.desk.files(), {})
        self.assertEqual(self.desk.at_branch(), "main")

    def test_two_desks(self):
        other = Desk()
        kept = whole(other)
        self.keep(1, f="ab")
        self.give("branch side")
        self.give("go side")
        self.assertEqual(whole(other), kept)

    def test_words_without_a_rest(self):
        for word in ALONE:
            self.give(word)
        self.keep(1, f="a")
        self.put(g="b")
        self.give("log", "1 w")
        self.give("changes", "+ g")
        self.give("pack")
        for word in WITH_REST:
            self.refuse(word, "no such line")

    def test_words_with_a_rest(self):
        self.keep(1, f="a")
        for word in ALONE:
            for rest in ("", " ", "main", "f", " f"):
                self.refuse(word + " " + rest, "no such line")
        self.give("put f b")
        self.give("show f", "|b")
        self.give("keep x", "kept 2")
        self.give("cut f")
        self.give("keep y", "kept 3")
        self.give("branch side")
        self.give("go side")
        self.give("join main", "nothing")
        self.give("carry main", "carried 0")
        self.give("compare main", "opened 0")

    def test_a_blank_and_nothing_behind(self):
        self.keep(1, f="a")
        self.refuse("put ", "bad path")
        self.refuse("cut ", "bad path")
        self.refuse("show ", "bad path")
        self.refuse("branch ", "bad branch")
        for word in ("go", "join", "carry", "compare"):
            self.refuse(word + " ", "no such branch")
        self.give("keep ", "kept 2")
        self.give("log", "2 ", "1 w")

    def test_words_that_are_none(self):
        self.keep(1, f="a")
        self.give("branch side")
        for word in ("", "x", "puts", "pu", "Put", "PUT", "logs", "lo", "packs", "keeps", "goes", "joined", "carried",
                     "put\t", "log\n", "\tlog", "put|f", "clash", "kept", "main", "f", "show\nf", "files", "answer"):
            for rest in ("", " ", " f", " f a", " side", " main", "  "):
                self.refuse(word + rest, "no such line")

    def test_a_blank_ahead(self):
        self.keep(1, f="a")
        for line in (" log", " put f b", " keep x", "  ", " pack", " go main"):
            self.refuse(line, "no such line")

    def test_two_blanks(self):
        self.keep(1, f="a")
        self.refuse("put  f b", "bad path")
        self.refuse("cut  f", "bad path")
        self.refuse("show  f", "bad path")
        self.refuse("branch  side", "bad branch")
        for word in ("go", "join", "carry", "compare"):
            self.refuse(word + "  main", "no such branch")
        self.give("keep  x", "kept 2")
        self.give("log", "2  x", "1 w")

    def test_any_text(self):
        for line in ("\u00e9", "put \u00e9 a", "put f \u00e9", "keep \u00e9", "go \u00e9", "branch \u00e9", "\n",
                     "put f\na b", "put f a\nb", "cut \n", "keep a\n", "x" * 5000, "put " + "x" * 5000,
                     "keep " + "x" * 5000):
            kept = whole(self.desk)
            self.assertIn(self.desk.answer(line), (["no such line"], ["bad path"], ["bad files"], ["bad words"],
                                                   ["no such branch"], ["bad branch"]), line)
            self.assertEqual(whole(self.desk), kept)

    def test_what_puts_names_on_the_shelf(self):
        self.keep(1, f="abc", g="abc")
        self.give("branch side")
        self.keep(2, f="xbc")
        names = self.desk.annals.shelf.names()
        for line in ("put h a|b", "put f q", "cut g", "show f", "changes", "log", "compare side", "branch other",
                     "put f", "cut h", "put f x|b|c", "put g a|b|c", "go side", "go main", "compare side", "go side",
                     "changes", "pack", "go other"):
            self.assertNotEqual(self.desk.answer(line), ["keep first"])
            self.assertEqual(self.desk.annals.shelf.names(), names)

    def test_what_moves_branches(self):
        self.keep(1, f="abc")
        self.give("branch side")
        self.give("branch other")
        self.keep(2, f="xbc")
        self.give("go side")
        self.keep(2, f="aby")
        for line, moves in (("put g a", False), ("keep v", True), ("join main", True), ("go other", False),
                            ("carry side", True), ("pack", False), ("branch more", False), ("go more", False),
                            ("join main", False), ("compare main", False), ("cut f", False), ("log", False)):
            kept = dict(self.desk.annals.branches())
            at = self.desk.at_branch()
            self.desk.answer(line)
            now = dict(self.desk.annals.branches())
            moved = [label for label in kept if kept[label] != now[label]]
            self.assertEqual(moved, [at] if moves else [], line)
            self.assertEqual(self.desk.at_branch(), line[3:] if line.startswith("go ") else at)

    def test_what_changes_working_files(self):
        self.keep(1, f="abc")
        self.give("branch side")
        self.give("put g a")
        kept = self.desk.files()
        for line in ("show f", "keep v", "log", "branch other", "changes", "compare side", "pack", "compare other"):
            self.desk.answer(line)
            self.assertEqual(self.desk.files(), kept)

    def test_annals_changed_by_themselves(self):
        self.keep(1, f="a")
        self.give("branch side")
        annals = self.desk.annals
        annals.keep("main", {"g": ("x", "y")}, "theirs")
        self.need_files(f="a")
        self.give("log", "2 theirs", "1 w")
        self.give("changes", "+ f", "- g")
        self.refuse("go side", "keep first")
        self.give("compare side", "+ f", "- g", "opened 2")
        # The working files are kept as the next version.
        self.give("keep mine", "kept 3")
        self.give("log", "3 mine", "2 theirs", "1 w")
        annals.set_head("main", annals.head("side"))
        self.give("log", "1 w")
        self.give("changes")
        self.give("go side")
        annals.begin("third", None)
        self.give("branch main", "bad branch")
        self.give("branch third", "bad branch")
        self.give("go third")
        self.need_files()
        self.give("log")
        annals.keep("third", {"h": ()}, "more")
        self.need_files()
        self.give("changes", "- h")
        self.refuse("join main", "keep first")
        self.assertEqual(join_heads(annals, "third", "main"), "joined")
        self.need_files()
        self.give("log", "3 join", "1 more")

    def test_annals_upon_another_shelf(self):
        self.keep(1, f="a")
        old = self.desk.annals.shelf
        names = old.names()
        upper = Shelf(old)
        self.desk.annals.stand_on(upper)
        self.keep(2, f="b")
        self.assertEqual(old.names(), names)
        self.assertIs(self.desk.annals.shelf, upper)
        self.assertIs(upper.has(self.desk.annals.head("main")), True)

    def test_the_askers_own(self):
        self.keep(1, f="ab")
        self.put(g="c")
        for line in ("show f", "log", "changes", "no", "show x", "put h a", "pack", "compare main", "join x"):
            told = self.desk.answer(line)
            kept = list(told)
            told.append("mine")
            told[0] = "mine"
            self.assertEqual(self.desk.answer(line), kept)
        files = self.desk.files()
        kept = dict(files)
        files["x"] = ("mine",)
        files.pop("f")
        self.assertEqual(self.desk.files(), kept)

    def test_what_was_told_stays(self):
        self.keep(1, f="ab")
        told = [self.desk.files(), self.desk.answer("show f"), self.desk.answer("log"), self.desk.annals.branches(),
                self.desk.annals.shelf.names()]
        kept = [type(one)(one) for one in told]
        for line in ("put f x", "put g y", "keep z", "branch side", "go side", "cut g", "keep q", "pack", "join main"):
            self.desk.answer(line)
        self.assertEqual(told, kept)

    def test_annals_do_not_keep_the_working_files(self):
        self.keep(1, f="ab")
        version = self.desk.annals.head("main")
        self.give("put f c")
        self.give("put g d")
        self.give("cut f")
        self.assertEqual(self.desk.annals.files(version), {"f": ("a", "b")})


class Files(DeskCase):
    """D2."""

    def need_put(self, text, lines):
        self.give("put f" + text)
        self.assertEqual(self.desk.files(), {"f": lines})
        self.give("show f", *["|" + line for line in lines])

    def test_put(self):
        self.need_put(" a", ("a",))
        self.need_put(" a|b", ("a", "b"))
        self.need_put(" a b|c  d", ("a b", "c  d"))
        self.need_put(" " + "|".join(["x" * 20] * 50), ("x" * 20,) * 50)

    def test_put_without_a_text(self):
        self.need_put("", ())
        self.need_put(" ", ("",))

    def test_put_with_signs_at_both_ends_and_side_by_side(self):
        self.need_put(" |", ("", ""))
        self.need_put(" |a", ("", "a"))
        self.need_put(" a|", ("a", ""))
        self.need_put(" |a|", ("", "a", ""))
        self.need_put(" a||b", ("a", "", "b"))
        self.need_put(" |||", ("", "", "", ""))

    def test_put_with_blanks_at_both_ends(self):
        self.need_put("  ", (" ",))
        self.need_put("  a", (" a",))
        self.need_put(" a ", ("a ",))
        self.need_put("   a  ", ("  a  ",))
        self.need_put("  | ", (" ", " "))
        self.need_put("  a | b ", (" a ", " b "))

    def test_put_again(self):
        self.give("put a x")
        self.give("put b y")
        self.give("put a z|z")
        self.assertEqual(self.desk.files(), {"a": ("z", "z"), "b": ("y",)})
        self.give("put a z|z")
        self.give("put a")
        self.assertEqual(self.desk.files(), {"a": (), "b": ("y",)})

    def test_put_at_any_path(self):
        for path in GOOD_PATHS:
            self.desk = Desk()
            self.give("put " + path + " x")
            self.assertEqual(self.desk.files(), {path: ("x",)})

    def test_put_is_answered_by_a_list_without_texts(self):
        self.assertEqual(self.desk.answer("put f a"), [])
        self.assertEqual(self.desk.answer("cut f"), [])

    def test_a_path_that_is_none(self):
        self.keep(1, a="x")
        for path in BAD_PATHS:
            if " " not in path:
                self.refuse("put " + path, "bad path")
                self.refuse("put " + path + " x", "bad path")
                # Ahead of lines that are none.
                self.refuse("put " + path + " " + "x" * 21, "bad path")
            self.refuse("cut " + path, "bad path")
            self.refuse("show " + path, "bad path")
        self.refuse("cut a x", "bad path")
        self.refuse("show a ", "bad path")

    def test_lines_that_are_none(self):
        self.put(a="x")
        for text in ("x" * 21, "x" * 20 + " ", "a|" + "x" * 21, "x" * 21 + "|", "a\tb", "a|b\n", "\n", "\u00e9",
                     "~\x7f"):
            self.refuse("put f " + text, "bad files")
            self.refuse("put a " + text, "bad files")
            self.refuse("put a/b " + text, "bad files")

    def test_a_folder_in_the_way(self):
        self.give("put a/b/c x")
        self.give("put ab y")
        for path in ("a", "a/b"):
            for text in ("", " ", " z"):
                self.refuse("put " + path + text, "bad files")
        self.give("put a/b/c z")
        self.give("put a/c z")
        self.give("put b z")

    def test_a_file_in_the_way(self):
        self.give("put a x")
        self.give("put b/c/d y")
        for path in ("a/a", "a/b/c", "a/a/a/a", "b/c/d/e"):
            for text in ("", " ", " z"):
                self.refuse("put " + path + text, "bad files")
        self.give("put ab/a z")
        self.give("put b/c/e z")

    def test_what_is_cut_is_in_nobodys_way(self):
        self.give("put a x")
        self.refuse("put a/b y", "bad files")
        self.give("cut a")
        self.give("put a/b y")
        self.refuse("put a x", "bad files")
        self.give("cut a/b")
        self.give("put a x")
        self.need_files(a="x")

    def test_cut(self):
        self.give("put a x")
        self.give("put b/c y")
        self.give("cut a")
        self.assertEqual(self.desk.files(), {"b/c": ("y",)})
        self.give("cut b/c")
        self.assertEqual(self.desk.files(), {})

    def test_what_is_not_there(self):
        for word in ("cut", "show"):
            self.refuse(word + " a", "no such file")
        self.give("put a/b x")
        self.give("put c")
        for path in ("a", "a/b/c", "a/c", "b", "c/d", "ab"):
            self.refuse("cut " + path, "no such file")
            self.refuse("show " + path, "no such file")
        self.give("cut c")
        self.refuse("cut c", "no such file")
        self.refuse("show c", "no such file")

    def test_what_was_kept_is_not_looked_at(self):
        # The working files alone count, for all of these.
        self.keep(1, a="x")
        self.give("cut a")
        self.refuse("show a", "no such file")
        self.refuse("cut a", "no such file")
        self.give("put a/b y")
        self.give("show a/b", "|y")
        self.assertEqual(self.branches_at(), {"main": {"a": ("x",)}})

    def test_show(self):
        self.give("put a |x y| |")
        self.refuse("show a", "|", "|x y", "| ", "|")
        self.give("put b")
        self.refuse("show b")
        self.give("put b ")
        self.refuse("show b", "|")


class Versions(DeskCase):
    """D3."""

    def test_keep(self):
        self.put(f="ab")
        self.give("keep first words", "kept 1")
        annals = self.desk.annals
        first = annals.head("main")
        self.assertEqual(annals.shelf.thing(first)[2:], ((), "first words"))
        self.assertEqual(annals.files(first), {"f": ("a", "b")})
        self.put(g="c")
        self.give("keep more", "kept 2")
        second = annals.head("main")
        self.assertEqual(annals.shelf.thing(second)[2:], ((first,), "more"))
        self.need_branch_files(f="ab", g="c")

    def test_keep_at_nothing_without_files(self):
        self.give("keep w", "kept 1")
        self.assertEqual(self.branches_at(), {"main": {}})

    def test_keep_what_is_kept(self):
        # The same files once more are a version of their own.
        self.keep(1, f="a")
        self.give("keep w", "kept 2")
        self.give("keep w", "kept 3")
        self.give("log", "3 w", "2 w", "1 w")

    def test_empty_words(self):
        self.give("keep ", "kept 1")
        self.give("log", "1 ")
        self.refuse("keep", "no such line")

    def test_words(self):
        for number, words in enumerate(("x" * 20, " ", "a  b", " a ", "|", "keep x", "~"), start=1):
            self.give("keep " + words, "kept " + str(number))
            self.assertEqual(self.desk.answer("log")[0], str(number) + " " + words)

    def test_words_that_are_no_line(self):
        self.put(f="a")
        for words in texts_of(NO_LINES):
            self.refuse("keep " + words, "bad words")
        self.refuse("keep " + " " * 21, "bad words")
        self.keep(1, f="b")
        self.refuse("keep " + "x" * 21, "bad words")

    def test_log_at_nothing(self):
        self.refuse("log")
        self.put(f="a")
        self.refuse("log")
        self.give("branch side")
        self.keep(1, f="b")
        self.give("go side")
        self.refuse("log")

    def test_log(self):
        for number, words in enumerate(("one", "two", "three"), start=1):
            self.give("keep " + words, "kept " + str(number))
        self.refuse("log", "3 three", "2 two", "1 one")
        self.put(f="a")
        self.refuse("log", "3 three", "2 two", "1 one")

    def test_several_branches(self):
        self.give("keep one", "kept 1")
        self.give("branch side")
        self.give("branch other")
        self.give("keep two", "kept 2")
        self.give("go side")
        self.give("log", "1 one")
        self.give("keep beside", "kept 2")
        self.give("keep more", "kept 3")
        self.give("log", "3 more", "2 beside", "1 one")
        self.give("go main")
        self.give("log", "2 two", "1 one")
        # A version that is there already: the same files, parent and words.
        self.give("go other")
        self.give("keep two", "kept 2")
        self.give("log", "2 two", "1 one")
        self.assertEqual(self.desk.annals.head("other"), self.desk.annals.head("main"))

    def test_two_parents(self):
        self.keep(1, f="a")
        self.give("branch side")
        self.keep(2, g="b")
        self.keep(3, g="c")
        self.give("go side")
        self.keep(2, h="d")
        self.give("join main", "joined 5")
        self.give("log", "5 join", "2 w", "1 w")
        self.keep(6, h="e")
        self.give("log", "6 w", "5 join", "2 w", "1 w")
        self.give("go main")
        self.give("log", "3 w", "2 w", "1 w")
        self.give("join side", "moved")
        self.give("log", "6 w", "5 join", "2 w", "1 w")

    def test_versions_to_which_nothing_leads_are_not_counted(self):
        self.keep(1, f="a")
        noted(self.desk.annals.shelf, {"x": ()}, [self.desk.annals.head("main")], "beside")
        self.keep(2, f="b")
        self.give("log", "2 w", "1 w")

    def test_many(self):
        for number in range(1, 400):
            self.give("put f " + str(number))
            self.give("keep " + str(number), "kept " + str(number))
        self.give("log", *[str(number) + " " + str(number) for number in range(399, 0, -1)])


class Branches(DeskCase):
    """D4, branch and go."""

    def test_branch(self):
        self.give("branch side")
        self.assertEqual(self.branches_at(), {"main": None, "side": None})
        self.keep(1, f="a")
        self.give("branch other")
        self.assertEqual(self.branches_at(), {"main": {"f": ("a",)}, "other": {"f": ("a",)}, "side": None})
        self.assertEqual(self.desk.at_branch(), "main")
        self.give("branch abcdefgh")

    def test_branch_where_the_desks_branch_is(self):
        self.keep(1, f="a")
        self.give("branch side")
        self.keep(2, f="b")
        self.give("go side")
        self.give("branch other")
        self.assertEqual(self.branches_at()["other"], {"f": ("a",)})

    def test_branch_does_not_ask_for_keeping(self):
        self.keep(1, f="a")
        self.put(f="b")
        self.give("branch side")
        self.need_files(f="b")
        self.assertEqual(self.branches_at()["side"], {"f": ("a",)})

    def test_bad_branches(self):
        self.give("branch side")
        for working in ("a", "b"):
            for label in ("main", "side", *texts_of(NO_LABELS)):
                self.refuse("branch " + label, "bad branch")
            self.put(f=working)

    def test_go(self):
        self.keep(1, f="a")
        self.give("branch side")
        self.give("go side")
        self.assertEqual(self.desk.at_branch(), "side")
        self.keep(2, f="b", g="c")
        self.give("go main")
        self.assertEqual(self.desk.at_branch(), "main")
        self.need_branch_files(f="a")
        self.give("go side")
        self.need_branch_files(f="b", g="c")

    def test_go_to_where_the_desk_is(self):
        self.refuse("go main")
        self.keep(1, f="a")
        self.refuse("go main")

    def test_go_to_nothing(self):
        self.give("branch none")
        self.keep(1, f="a")
        self.give("go none")
        self.need_files()
        self.give("go main")
        self.need_branch_files(f="a")

    def test_no_such_branch(self):
        self.give("branch side")
        for working in (False, True):
            if working:
                # Ahead of keep first.
                self.put(f="a")
            for label in ("", "x", "mai", "mainn", "Main", "main ", "main side", "side/main", "abcdefghi", "\u00e9",
                          "N1.0"):
                for word in ("go", "join", "carry"):
                    self.refuse(word + " " + label, "no such branch")

    def test_keep_first(self):
        self.give("branch side")
        self.keep(1, f="a", g="b")
        for lines in (("put f b",), ("put h a",), ("cut f",), ("cut f", "cut g"), ("put f",), ("put f a|a",),
                      ("cut f", "put f/x a")):
            for line in lines:
                self.give(line)
            for word in ("go", "join", "carry"):
                for label in ("main", "side"):
                    self.refuse(word + " " + label, "keep first")
            # The branch's files again, in whatever order.
            self.desk.answer("cut f/x")
            self.desk.answer("cut h")
            self.put(g="b", f="a")
            self.give("go main")

    def test_keep_first_at_nothing(self):
        self.give("branch side")
        self.give("put f")
        for word in ("go", "join", "carry"):
            self.refuse(word + " side", "keep first")
        self.give("cut f")
        self.refuse("join side", "nothing")
        self.refuse("carry side", "nothing")
        self.give("go side")


class Joins(DeskCase):
    """D4, join."""

    def test_nothing(self):
        self.give("branch none")
        self.refuse("join none", "nothing")
        self.refuse("join main", "nothing")
        self.keep(1, f="a")
        self.refuse("join none", "nothing")
        self.refuse("join main", "nothing")
        self.give("branch side")
        self.refuse("join side", "nothing")
        self.keep(2, f="b")
        self.refuse("join side", "nothing")

    def test_moved(self):
        self.give("branch none")
        self.give("branch side")
        self.keep(1, f="a")
        self.keep(2, f="b", g="c")
        self.give("go none")
        self.give("join main", "moved")
        self.need_branch_files(f="b", g="c")
        self.assertEqual(self.desk.annals.head("none"), self.desk.annals.head("main"))
        self.assertEqual(self.branches_at()["side"], None)

    def test_joined(self):
        self.keep(1, f="abc")
        self.give("branch side")
        self.keep(2, f="xbc", m="m")
        mine = self.desk.annals.head("main")
        self.give("go side")
        self.keep(2, f="aby", y="y")
        yours = self.desk.annals.head("side")
        self.give("go main")
        self.give("join side", "joined 4")
        self.need_branch_files(f="xby", m="m", y="y")
        self.assertEqual(self.desk.annals.shelf.thing(self.desk.annals.head("main"))[2:], ((mine, yours), "join"))
        self.assertEqual(self.desk.annals.head("side"), yours)
        self.assertEqual(self.desk.at_branch(), "main")
        self.refuse("join side", "nothing")
        self.give("go side")
        self.give("join main", "moved")

    def test_versions_that_meet_nowhere(self):
        self.give("branch side")
        self.keep(1, f="a")
        self.give("go side")
        self.keep(1, g="b")
        self.give("join main", "joined 3")
        self.need_branch_files(f="a", g="b")
        self.give("log", "3 join", "1 w")

    def test_clashes(self):
        self.keep(1, f="abc", g="abc", h="abc", ab="a", b="b", k="k")
        self.give("branch side")
        for line in ("put f x|b|c", "put g x|b|c", "cut h", "cut ab", "put ab/c n", "put b m", "put z/a m", "put k o",
                     "put d/a m"):
            self.give(line)
        self.give("keep mine", "kept 2")
        self.give("go side")
        for line in ("put f z|b|c", "put g a|b|y", "put h a|b|x", "put ab o", "cut b", "put z y", "put k o",
                     "put d/b y"):
            self.give(line)
        self.give("keep yours", "kept 2")
        # The file ab clashes already, and is not in the way of ab/c.
        texts = ["clash " + path for path in ("ab", "b", "f", "h", "z", "z/a")]
        self.refuse("join main", *texts)
        self.give("go main")
        self.refuse("join side", *texts)

    def test_a_clash_and_then_none(self):
        self.keep(1, f="a")
        self.give("branch side")
        self.keep(2, f="b")
        self.give("go side")
        self.keep(2, f="c")
        self.refuse("join main", "clash f")
        self.keep(3, f="b")
        self.give("join main", "joined 5")
        self.need_branch_files(f="b")


class Carries(DeskCase):
    """D4, carry."""

    def fork(self):
        """Two branches, each with a version behind the first one; the desk is at side."""
        self.keep(1, f="abc")
        self.give("branch side")
        self.keep(2, f="xbc")
        self.give("go side")
        self.keep(2, f="aby")

    def test_nothing(self):
        self.give("branch none")
        self.refuse("carry none", "nothing")
        self.refuse("carry main", "nothing")
        self.keep(1, f="a")
        self.refuse("carry none", "nothing")
        self.give("go none")
        self.refuse("carry main", "nothing")
        self.refuse("carry none", "nothing")

    def test_carried(self):
        self.fork()
        onto = self.desk.annals.head("main")
        self.give("put g q")
        self.give("keep more", "kept 3")
        self.give("carry main", "carried 2")
        self.need_branch_files(f="xby", g="q")
        self.give("log", "4 more", "3 w", "2 w", "1 w")
        self.assertEqual(self.desk.annals.head("main"), onto)
        self.assertEqual(self.desk.at_branch(), "side")
        self.give("go main")
        self.give("join side", "moved")

    def test_an_empty_row(self):
        self.keep(1, f="a")
        self.give("branch side")
        self.refuse("carry side", "carried 0")
        self.refuse("carry main", "carried 0")
        self.keep(2, f="b")
        self.give("go side")
        # The desk's branch lies before the other one, and goes to it.
        self.give("carry main", "carried 0")
        self.need_branch_files(f="b")
        self.assertEqual(self.desk.annals.head("side"), self.desk.annals.head("main"))

    def test_onto_what_lies_before(self):
        self.keep(1, f="a")
        self.give("branch side")
        self.keep(2, f="b")
        self.keep(3, f="c")
        # Each comes out as it was.
        self.refuse("carry side", "carried 2")

    def test_some_that_leave_nothing(self):
        self.keep(1, f="a")
        self.give("branch side")
        self.keep(2, f="b")
        self.give("go side")
        self.put(f="b")
        self.give("keep v", "kept 2")
        self.put(g="c")
        self.give("keep u", "kept 3")
        # The first one is there already, and is counted all the same.
        self.give("carry main", "carried 2")
        self.need_branch_files(f="b", g="c")
        self.give("log", "3 u", "2 w", "1 w")

    def test_no_meeting_place(self):
        self.give("branch side")
        self.keep(1, f="a")
        self.give("go side")
        self.keep(1, g="b")
        self.keep(2, g="c")
        self.give("carry main", "carried 2")
        self.need_branch_files(f="a", g="c")
        self.give("log", "3 w", "2 w", "1 w")

    def test_a_meeting_place_beside_the_way(self):
        self.fork()
        # side is at a join whose second parent main is at.
        self.give("join main", "joined 4")
        self.refuse("carry main", "no row")
        self.keep(5, f="q")
        self.refuse("carry main", "no row")
        self.give("go main")
        self.keep(3, g="r")
        self.give("go side")
        self.refuse("carry main", "no row")
        # From main, the place is on the way.
        self.give("go main")
        self.give("carry side", "carried 1")
        self.need_branch_files(f="q", g="r")

    def test_two_meeting_places(self):
        # Both joins have both branches' versions as parents; the first of
        # these in the store's order is main's.
        for first, answers in (("main", ["no row"]), ("side", ["carried 1"])):
            self.desk = Desk()
            self.give("keep w", "kept 1")
            self.give("branch side")
            self.give("branch old")
            for label in (("main", "side") if first == "main" else ("side", "main")):
                self.give("go " + label)
                self.give("put " + label + " a")
                self.give("keep v", "kept 2")
            self.give("go main")
            self.give("branch copy")
            self.give("join side", "joined 4")
            self.give("go side")
            self.give("join copy", "joined 4")
            self.give("carry main", *answers)

    def test_a_clash(self):
        self.keep(1, f="abc")
        self.give("branch side")
        self.keep(2, f="xbc")
        self.give("go side")
        self.keep(2, f="zbc")
        self.refuse("carry main", "clash")
        self.refuse("carry main", "clash")

    def test_a_clash_on_the_way(self):
        self.keep(1, f="abc")
        self.give("branch side")
        self.keep(2, f="xbc")
        self.give("go side")
        self.keep(2, g="g")
        self.keep(3, f="zbc")
        kept = whole(self.desk)
        self.give("carry main", "clash")
        # What came of the first one stays on the shelf; all else is as it was.
        names = self.desk.annals.shelf.names()
        things = kept[0][1]
        self.assertEqual([(name, self.desk.annals.shelf.thing(name)) for name in names][:len(things)], things)
        self.assertEqual(self.desk.annals.files(names[-1]), {"f": tuple("xbc"), "g": ("g",)})
        self.assertEqual((self.desk.annals.branches(), self.desk.files(), self.desk.at_branch()),
                         (kept[0][0], kept[1], kept[2]))
        self.refuse("carry main", "clash")

    def test_a_join_on_the_way(self):
        self.fork()
        self.give("branch third")
        self.give("join main", "joined 4")
        self.give("go third")
        self.keep(3, h="h")
        self.give("go side")
        # side is at a join; its first parent is where third came from.
        self.give("carry third", "carried 1")
        self.need_branch_files(f="xby", h="h")
        self.give("log", "4 join", "3 w", "2 w", "1 w")


class Unlike(DeskCase):
    """D5."""

    def test_changes_at_nothing(self):
        self.refuse("changes")
        self.give("put b/c x")
        self.give("put a")
        self.refuse("changes", "+ a", "+ b/c")

    def test_changes(self):
        self.keep(1, f="abc", g="abc", h="abc")
        self.refuse("changes")
        self.give("put f x|b|c")
        self.give("cut g")
        self.give("put a n")
        self.refuse("changes", "+ a", "* f", "  0 1", "  |x", "- g")
        self.give("put f a|b|c")
        self.give("put g a|b|c")
        self.refuse("changes", "+ a")
        self.give("cut a")
        self.refuse("changes")

    def test_several_spans(self):
        self.keep(1, f="abcdefgh")
        self.give("put f x|y|c|d|f|g| |")
        self.refuse("changes", "* f", "  0 2", "  |x", "  |y", "  4 5", "  7 8", "  | ", "  |")

    def test_spans_without_lines(self):
        self.keep(1, f="abc", g="a")
        self.give("put f b")
        self.give("put g")
        self.refuse("changes", "* f", "  0 1", "  2 3", "* g", "  0 1")

    def test_no_lines_before(self):
        self.give("put f")
        self.give("keep w", "kept 1")
        self.give("put f |")
        self.refuse("changes", "* f", "  0 0", "  |", "  |")

    def test_paths_rising(self):
        for path in ("b", "ab", "a/c", "aa/b", "a/b/c", "abc"):
            self.give("put " + path + " x")
        self.refuse("changes", "+ a/b/c", "+ a/c", "+ aa/b", "+ ab", "+ abc", "+ b")
        self.give("keep w", "kept 1")
        for path in ("abc", "a/c", "b"):
            self.give("cut " + path)
        self.give("put ab y")
        self.give("put b/a x")
        self.refuse("changes", "- a/c", "* ab", "  0 1", "  |y", "- abc", "- b", "+ b/a")

    def test_a_file_that_became_a_folder(self):
        self.keep(1, a="x", b="x")
        self.give("cut a")
        self.give("put a/b y")
        self.give("put a/a x")
        self.refuse("changes", "- a", "+ a/a", "+ a/b")
        self.give("keep w", "kept 2")
        self.give("cut a/a")
        self.give("cut a/b")
        self.give("put a x")
        self.refuse("changes", "+ a", "- a/a", "- a/b")

    def test_compare(self):
        self.keep(1, f="abc", g="abc", h="abc")
        self.give("branch side")
        self.refuse("compare side", "opened 0")
        self.refuse("compare main", "opened 0")
        for line in ("put f x|b|c", "cut g", "put a n"):
            self.give(line)
        self.give("keep w", "kept 2")
        # From the desk's branch to the other one.
        self.refuse("compare side", "- a", "* f", "  0 1", "  |a", "+ g", "opened 2")
        self.give("go side")
        self.refuse("compare main", "+ a", "* f", "  0 1", "  |x", "- g", "opened 2")

    def test_compare_does_not_look_at_working_files(self):
        self.keep(1, f="a")
        self.give("branch side")
        self.keep(2, f="b")
        self.give("cut f")
        self.give("put g x")
        self.refuse("compare side", "* f", "  0 1", "  |a", "opened 2")
        self.refuse("compare main", "opened 0")

    def test_how_many_trees_were_opened(self):
        for line in ("put a/b/c x", "put a/b/d y", "put b/c z", "put c/d/e/f x"):
            self.give(line)
        self.give("keep w", "kept 1")
        self.give("branch side")
        self.give("put a/b/c q")
        self.give("keep w", "kept 2")
        self.refuse("compare side", "* a/b/c", "  0 1", "  |x", "opened 6")
        self.give("cut c/d/e/f")
        self.give("keep w", "kept 3")
        self.refuse("compare side", "* a/b/c", "  0 1", "  |x", "+ c/d/e/f", "opened 9")

    def test_compare_of_the_same_files(self):
        # Other versions of one tree: nothing is opened.
        self.keep(1, f="a")
        self.give("branch side")
        self.give("keep w", "kept 2")
        self.refuse("compare side", "opened 0")

    def test_compare_of_no_files(self):
        self.give("keep w", "kept 1")
        self.give("branch side")
        self.keep(2, f="a")
        self.refuse("compare side", "- f", "opened 2")

    def test_no_such_branch(self):
        for step in range(2):
            for label in ("", "x", "Main", "main ", "abcdefghi", "side"):
                self.refuse("compare " + label, "no such branch")
            # Working files are not looked at for it.
            self.put(f="a")
        self.give("keep w", "kept 1")
        self.refuse("compare side", "no such branch")

    def test_compare_with_nothing(self):
        self.give("branch none")
        self.refuse("compare none", "nothing")
        self.refuse("compare main", "nothing")
        self.put(f="a")
        self.refuse("compare none", "nothing")
        self.give("keep w", "kept 1")
        self.refuse("compare none", "nothing")
        self.give("go none")
        self.refuse("compare main", "nothing")
        self.refuse("compare x", "no such branch")


if __name__ == "__main__":
    unittest.main()
