"""What several test files hand in: things, and what is none."""


class Odd:
    """Something that can be neither compared nor hashed."""

    def __eq__(self, other):
        raise RuntimeError("compared")

    def __hash__(self):
        raise RuntimeError("hashed")


NO_TEXTS = (None, True, False, 0, 7, 1.5, b"a", [], ["a"], (), ("a",), {}, {"a": "b"}, set(), Odd(), str, len)

GOOD_LEAVES = (
    ("leaf", ()),
    ("leaf", ("",)),
    ("leaf", ("", "")),
    ("leaf", ("ab", "")),
    ("leaf", ("a" * 20, " ~")),
    ("leaf", ("same",) * 300),
)

GOOD_TREES = (
    ("tree", ()),
    ("tree", (("a", "L38.0"),)),
    ("tree", (("a", ""), ("aa", "any text: \n\u00e9"), ("b", "x"))),
    ("tree", (("abcdefgh", "L76.0"), ("z", "L76.0"))),
)

GOOD_NOTES = (
    ("note", "T84.0", (), ""),
    ("note", "", ("",), "first words"),
    ("note", "any text", ("one", "other"), "a" * 20),
    ("note", "same", ("same",), "~"),
)

GOOD_THINGS = GOOD_LEAVES + GOOD_TREES + GOOD_NOTES

BAD_LEAVES = (
    ("leaf",),
    ("leaf", (), ()),
    ("leaf", ("a",), "b"),
    ("Leaf", ()),
    ("leaves", ()),
    ["leaf", ()],
    ("leaf", []),
    ("leaf", ["a"]),
    ("leaf", None),
    ("leaf", "a"),
    ("leaf", {}),
    ("leaf", ("a", 1)),
    ("leaf", ("a", None)),
    ("leaf", (("a",),)),
    ("leaf", (["a"],)),
    ("leaf", (Odd(),)),
    ("leaf", ("a" * 21,)),
    ("leaf", ("a", "b\n")),
    ("leaf", ("a\tb",)),
    ("leaf", ("\x7f",)),
    ("leaf", ("50%",)),
)

BAD_TREES = (
    ("tree",),
    ("tree", (), ()),
    ("trees", ()),
    ["tree", ()],
    ("tree", []),
    ("tree", None),
    ("tree", "ab"),
    ("tree", {"a": "x"}),
    ("tree", ("a", "x")),
    ("tree", ("ab", "cd")),
    ("tree", (["a", "x"],)),
    ("tree", (("a",),)),
    ("tree", (("a", "x", "y"),)),
    ("tree", ((),)),
    ("tree", (None,)),
    ("tree", (Odd(),)),
    ("tree", (("", "x"),)),
    ("tree", (("abcdefghi", "x"),)),
    ("tree", (("A", "x"),)),
    ("tree", (("a1", "x"),)),
    ("tree", (("a/b", "x"),)),
    ("tree", ((1, "x"),)),
    ("tree", (([], "x"),)),
    ("tree", (("a", 1),)),
    ("tree", (("a", None),)),
    ("tree", (("a", ["x"]),)),
    ("tree", (("a", Odd()),)),
    ("tree", (("a", "x"), ("b", ("y",)))),
    ("tree", (("b", "x"), ("a", "y"))),
    ("tree", (("a", "x"), ("c", "y"), ("b", "z"))),
    ("tree", (("aa", "x"), ("a", "y"))),
    ("tree", (("a", "x"), ("a", "y"))),
    ("tree", (("a", "x"), ("a", "x"))),
    ("tree", (("a", "x"), ("b", "y"), ("a", "x"))),
)

BAD_NOTES = (
    ("note",),
    ("note", "x"),
    ("note", "x", ()),
    ("note", "x", (), "w", "w"),
    ("not", "x", (), "w"),
    ["note", "x", (), "w"],
    ("note", None, (), "w"),
    ("note", 1, (), "w"),
    ("note", ["x"], (), "w"),
    ("note", ("x",), (), "w"),
    ("note", Odd(), (), "w"),
    ("note", "x", [], "w"),
    ("note", "x", ["p"], "w"),
    ("note", "x", None, "w"),
    ("note", "x", "p", "w"),
    ("note", "x", "", "w"),
    ("note", "x", {}, "w"),
    ("note", "x", (1,), "w"),
    ("note", "x", (None,), "w"),
    ("note", "x", ("p", ["q"]), "w"),
    ("note", "x", (Odd(), Odd()), "w"),
    ("note", "x", ("p", "p"), "w"),
    ("note", "x", ("p", "q", "r"), "w"),
    ("note", "x", ("p", "q", "p"), "w"),
    ("note", "x", (), None),
    ("note", "x", (), 1),
    ("note", "x", (), ["w"]),
    ("note", "x", (), ("w",)),
    ("note", "x", (), Odd()),
    ("note", "x", (), "w" * 21),
    ("note", "x", (), "w\n"),
    ("note", "x", (), "\t"),
    ("note", "x", (), "\u00e9"),
    ("note", "x", (), "100%"),
)

BAD_OTHERS = (
    "leaf",
    (Odd(),),
    (Odd(), ()),
    (None, ()),
    (1, "x", (), "w"),
    (["leaf"], ()),
    (("leaf", ()),),
    ("", ()),
    ("L", ("a",)),
    ("leaf", (("b", "y"),)),
    ("tree", ("a",)),
    ("leaf", "x", (), "w"),
    ("tree", "x", (), "w"),
    ("note", ()),
)

NO_THINGS = NO_TEXTS + BAD_LEAVES + BAD_TREES + BAD_NOTES + BAD_OTHERS
