"""What several test files hand in: stores, things, and what is none."""

import itertools
import unittest

from annals.errors import NoName
from annals.shelf import Shelf
from annals.sides import joined_files
from annals.trees import files_of, keep_files
from annals.versions import Annals


class Odd:
    """Something that can be neither compared nor hashed."""

    def __eq__(self, other):
        raise RuntimeError("compared")

    def __hash__(self):
        raise RuntimeError("hashed")


class Base:
    """A store, or a base, with the three methods that it must have, and no other one."""

    def __init__(self, rows):
        self.rows = rows

    def has(self, name):
        return isinstance(name, str) and name in [row[0] for row in self.rows]

    def thing(self, name):
        for row in self.rows:
            if row[0] == name:
                return row[1]
        raise NoName("none")

    def names(self):
        return [row[0] for row in self.rows]


def plain(store):
    """The same store, with the three methods alone."""
    return Base([(name, store.thing(name)) for name in store.names()])


def shaken(shelf):
    """The same store with its names in another order."""
    names = sorted(shelf.names(), key=lambda name: (name[::-1], name))
    return Base([(name, shelf.thing(name)) for name in names])


def all_rows(signs, longest):
    """Each row of at most so many of these lines."""
    return [row for count in range(longest + 1) for row in itertools.product(signs, repeat=count)]


def nested(files):
    """The files as dicts within dicts, label by label."""
    whole = {}
    for path, lines in files.items():
        labels = path.split("/")
        inner = whole
        for label in labels[:-1]:
            inner = inner.setdefault(label, {})
        inner[labels[-1]] = lines
    return whole


def read(store, name):
    """What a name leads to, as dicts within dicts, by the store's things alone."""
    thing = store.thing(name)
    if thing[0] == "leaf":
        return thing[1]
    return {label: read(store, inner) for label, inner in thing[1]}


def led_to(store, name):
    """The names that a name leads to, itself with them."""
    thing = store.thing(name)
    if thing[0] == "leaf":
        return {name}
    inner = [row[1] for row in thing[1]] if thing[0] == "tree" else [thing[1], *thing[2]]
    return {name}.union(*[led_to(store, other) for other in inner])


def told_reached(store, roots):
    """What is reached by the words of P1."""
    return [name for name in store.names() if any(name in led_to(store, root) for root in roots)]


def families(paths, choices):
    """The files of each form that these paths, with one of these lines or with None for nothing, can have."""
    found = []
    for choice in itertools.product((None,) + choices, repeat=len(paths)):
        files = {path: lines for path, lines in zip(paths, choice) if lines is not None}
        if not any(other.startswith(path + "/") for path in files for other in files):
            found.append(files)
    return found


def told_rows(one, other):
    """The rows of changes between files, with lines, as C5 has them."""
    return [(path, one.get(path), other.get(path)) for path in sorted({**one, **other})
            if one.get(path) != other.get(path)]


def told_opened(one, other):
    """How many trees C6 has opened, of what stands at a place in both: lines, dicts for trees, or None."""
    if one == other:
        return 0
    ones = one if isinstance(one, dict) else {}
    others = other if isinstance(other, dict) else {}
    here = isinstance(one, dict) + isinstance(other, dict)
    return here + sum(told_opened(ones.get(label), others.get(label)) for label in {**ones, **others})


# Lines, others that came of them at either end, what comes where both are
# joined, and some that clash with the first of these.
A = ("a", "b", "c")
LOW = ("x", "b", "c")
HIGH = ("a", "b", "y")
BOTH = ("x", "b", "y")
OTHER = ("z", "b", "c")

# Versions by their parents, each behind those: rows, branches, joins, joins
# across, and some that have nothing to do with others.
SHAPES = (
    {"a": ""},
    {"a": "", "b": ""},
    {"a": "", "b": "a", "c": "b", "d": "c"},
    {"a": "", "b": "a", "c": "a", "d": "bc"},
    {"a": "", "b": "a", "c": "a", "d": "bc", "e": "cb"},
    {"a": "", "b": "a", "c": "a", "d": "bc", "e": "cb", "f": "de", "g": "e", "h": "d"},
    {"a": "", "b": "", "c": "ab", "d": "ba", "e": "a", "f": "b", "g": "ef"},
    {"a": "", "b": "a", "c": "b", "d": "ac", "e": "a", "f": "eb", "g": "df"},
    {"a": "", "b": "", "c": "a", "d": "b", "e": "a", "f": "b"},
)


def filled(shape, files={}):
    """A shelf with the versions of a shape, of the files of their letters, and their names by these letters."""
    shelf = Shelf(None)
    names = {}
    for letter, parents in shape.items():
        tree = keep_files(shelf, files.get(letter, {}))
        names[letter] = shelf.put(("note", tree, tuple(names[parent] for parent in parents), letter))
    return shelf, names


def grown(shape, files={}):
    """Annals upon such a shelf, and the names."""
    shelf, names = filled(shape, files)
    annals = Annals()
    annals.stand_on(shelf)
    return annals, names


def begun(shape, files, heads):
    """Such annals with branches at the letters, or at nothing, and the names."""
    annals, names = grown(shape, files)
    for label, letter in heads.items():
        annals.begin(label, names.get(letter))
    return annals, names


def lies_before(shape, one, other):
    """As 5.2 has it."""
    return one == other or any(lies_before(shape, one, parent) for parent in shape[other])


def told_way(shape, high):
    """The versions that one comes to from high by first parents, high first."""
    return [high] + (told_way(shape, shape[high][0]) if shape[high] else [])


def told_meeting(shape, one, other):
    both = [letter for letter in shape if lies_before(shape, letter, one) and lies_before(shape, letter, other)]
    return [letter for letter in both
            if not any(lies_before(shape, letter, another) for another in both if another != letter)]


def no_names(store):
    """What is no name of a store, of anything."""
    names = store.names()
    return [*NO_TEXTS, "", "L0.99", *[name + "0" for name in names if name + "0" not in names]]


def no_versions(store):
    """What is no version of a store: what is no text, texts that it hasn't, its leaves and its trees."""
    names = store.names()
    near = [other for name in names for other in (name + "0", name[:-1]) if other not in names]
    others = [name for name in names if store.thing(name)[0] != "note"]
    return [*NO_TEXTS, "", "a", "N0.99", *near, *others]


def unfolded(store, version):
    """What a version is, with no name in it: its files, its parents unfolded, and its words."""
    word, tree, parents, words = store.thing(version)
    return files_of(store, tree), tuple(unfolded(store, parent) for parent in parents), words


class Model:
    """Annals by the words of 5.3 and 6.1 to 6.5: a version is a tuple of files, parents and words, and has no name."""

    def __init__(self, heads):
        self.kept = []
        self.heads = dict(heads)

    def note(self, files, parents, words):
        version = (files, parents, words)
        if version not in self.kept:
            self.kept.append(version)
        return version

    def before(self, version):
        """Each version that lies before one, as often as one comes to it."""
        return [version] + [other for parent in version[1] for other in self.before(parent)]

    def keep(self, branch, files, words):
        head = self.heads[branch]
        self.heads[branch] = self.note(files, () if head is None else (head,), words)
        return "kept"

    def meeting(self, one, other):
        """The first place where two versions meet, or None."""
        both = [version for version in self.before(one) if version in self.before(other)]
        met = [version for version in both if not any(version in self.before(near) for near in both if near != version)]
        return min(met, key=self.kept.index, default=None)

    def joined(self, one, other):
        meeting = self.meeting(one, other)
        return joined_files({} if meeting is None else meeting[0], one[0], other[0])

    def join(self, branch, other):
        mine = self.heads[branch]
        yours = self.heads[other]
        if yours is None or (mine is not None and yours in self.before(mine)):
            return "nothing"
        if mine is None or mine in self.before(yours):
            self.heads[branch] = yours
            return "moved"
        files, clashes = self.joined(mine, yours)
        if clashes:
            return "clash"
        self.heads[branch] = self.note(files, (mine, yours), "join")
        return "joined"

    def way(self, version):
        """The versions that one comes to by first parents, this one first."""
        return [version] + (self.way(version[1][0]) if version[1] else [])

    def carry(self, branch, other, low=None):
        """A branch's row from low, or the whole of it, carried onto another branch's version."""
        last = self.heads[other]
        if last is None:
            return "no version"
        if self.heads[branch] is None:
            return "no fit"
        way = self.way(self.heads[branch])
        if low is not None and low not in way:
            return "no fit"
        for version in reversed(way if low is None else way[:way.index(low)]):
            base = version[1][0][0] if version[1] else {}
            files, clashes = joined_files(base, last[0], version[0])
            if clashes:
                return "clash"
            if files != last[0]:
                last = self.note(files, (last,), version[2])
        self.heads[branch] = last
        return "carried"


def state(annals):
    """All that annals have: their branches, and their shelf's names with the things that they are names of."""
    return annals.branches(), [(name, annals.shelf.thing(name)) for name in annals.shelf.names()]


class AnnalsCase(unittest.TestCase):

    def need_untouched(self, annals, ask):
        """What is asked is told, and changes nothing."""
        kept = state(annals)
        told = ask()
        self.assertEqual(state(annals), kept)
        return told

    def need_refused(self, annals, error, ask):
        """What is asked is refused with this very error, and changes nothing."""
        kept = state(annals)
        with self.assertRaises(error) as caught:
            ask()
        self.assertIs(caught.exception.__class__, error)
        self.assertEqual(state(annals), kept)


NO_TEXTS = (None, True, False, 0, 7, 1.5, b"a", [], ["a"], (), ("a",), {}, {"a": "b"}, set(), Odd(), str, len)

# What is no line, and what is no label, of anything.
NO_LINES = NO_TEXTS + ("a" * 21, "a\nb", "a\n", "\t", "\x7f", "\u00e9", "5%")
NO_LABELS = NO_TEXTS + ("", "abcdefghi", "A", "a1", "a b", " a", "a ", "a/b", "a\n", "\u00e9", "\u0430", "5%")

GOOD_LEAVES = (
    ("leaf", ()),
    ("leaf", ("",)),
    ("leaf", ("", "")),
    ("leaf", ("ab", "")),
    ("leaf", ("a" * 20, " ~")),
    ("leaf", ("same",) * 300),
)

GOOD_TREES = (
    ("tree", ()),
    ("tree", (("a", "L38.0"),)),
    ("tree", (("a", ""), ("aa", "any text: \n\u00e9"), ("b", "x"))),
    ("tree", (("abcdefgh", "L76.0"), ("z", "L76.0"))),
)

GOOD_NOTES = (
    ("note", "T84.0", (), ""),
    ("note", "", ("",), "first words"),
    ("note", "any text", ("one", "other"), "a" * 20),
    ("note", "same", ("same",), "~"),
)

GOOD_THINGS = GOOD_LEAVES + GOOD_TREES + GOOD_NOTES

BAD_LEAVES = (
    ("leaf",),
    ("leaf", (), ()),
    ("leaf", ("a",), "b"),
    ("Leaf", ()),
    ("leaves", ()),
    ["leaf", ()],
    ("leaf", []),
    ("leaf", ["a"]),
    ("leaf", None),
    ("leaf", "a"),
    ("leaf", {}),
    ("leaf", ("a", 1)),
    ("leaf", ("a", None)),
    ("leaf", (("a",),)),
    ("leaf", (["a"],)),
    ("leaf", (Odd(),)),
    ("leaf", ("a" * 21,)),
    ("leaf", ("a", "b\n")),
    ("leaf", ("a\tb",)),
    ("leaf", ("\x7f",)),
    ("leaf", ("50%",)),
)

BAD_TREES = (
    ("tree",),
    ("tree", (), ()),
    ("trees", ()),
    ["tree", ()],
    ("tree", []),
    ("tree", None),
    ("tree", "ab"),
    ("tree", {"a": "x"}),
    ("tree", ("a", "x")),
    ("tree", ("ab", "cd")),
    ("tree", (["a", "x"],)),
    ("tree", (("a",),)),
    ("tree", (("a", "x", "y"),)),
    ("tree", ((),)),
    ("tree", (None,)),
    ("tree", (Odd(),)),
    ("tree", (("", "x"),)),
    ("tree", (("abcdefghi", "x"),)),
    ("tree", (("A", "x"),)),
    ("tree", (("a1", "x"),)),
    ("tree", (("a/b", "x"),)),
    ("tree", ((1, "x"),)),
    ("tree", (([], "x"),)),
    ("tree", (("a", 1),)),
    ("tree", (("a", None),)),
    ("tree", (("a", ["x"]),)),
    ("tree", (("a", Odd()),)),
    ("tree", (("a", "x"), ("b", ("y",)))),
    ("tree", (("b", "x"), ("a", "y"))),
    ("tree", (("a", "x"), ("c", "y"), ("b", "z"))),
    ("tree", (("aa", "x"), ("a", "y"))),
    ("tree", (("a", "x"), ("a", "y"))),
    ("tree", (("a", "x"), ("a", "x"))),
    ("tree", (("a", "x"), ("b", "y"), ("a", "x"))),
)

BAD_NOTES = (
    ("note",),
    ("note", "x"),
    ("note", "x", ()),
    ("note", "x", (), "w", "w"),
    ("not", "x", (), "w"),
    ["note", "x", (), "w"],
    ("note", None, (), "w"),
    ("note", 1, (), "w"),
    ("note", ["x"], (), "w"),
    ("note", ("x",), (), "w"),
    ("note", Odd(), (), "w"),
    ("note", "x", [], "w"),
    ("note", "x", ["p"], "w"),
    ("note", "x", None, "w"),
    ("note", "x", "p", "w"),
    ("note", "x", "", "w"),
    ("note", "x", {}, "w"),
    ("note", "x", (1,), "w"),
    ("note", "x", (None,), "w"),
    ("note", "x", ("p", ["q"]), "w"),
    ("note", "x", (Odd(), Odd()), "w"),
    ("note", "x", ("p", "p"), "w"),
    ("note", "x", ("p", "q", "r"), "w"),
    ("note", "x", ("p", "q", "p"), "w"),
    ("note", "x", (), None),
    ("note", "x", (), 1),
    ("note", "x", (), ["w"]),
    ("note", "x", (), ("w",)),
    ("note", "x", (), Odd()),
    ("note", "x", (), "w" * 21),
    ("note", "x", (), "w\n"),
    ("note", "x", (), "\t"),
    ("note", "x", (), "\u00e9"),
    ("note", "x", (), "100%"),
)

BAD_OTHERS = (
    "leaf",
    (Odd(),),
    (Odd(), ()),
    (None, ()),
    (1, "x", (), "w"),
    (["leaf"], ()),
    (("leaf", ()),),
    ("", ()),
    ("L", ("a",)),
    ("leaf", (("b", "y"),)),
    ("tree", ("a",)),
    ("leaf", "x", (), "w"),
    ("tree", "x", (), "w"),
    ("note", ()),
)

NO_THINGS = NO_TEXTS + BAD_LEAVES + BAD_TREES + BAD_NOTES + BAD_OTHERS

GOOD_PATHS = ("a", "z", "abcdefgh", "a/b", "a/a", "ab/abcdefgh", "a/b/c", "a/b/c/d", "abcdefgh/" * 3 + "abcdefgh")

BAD_PATHS = (
    "",
    "/",
    "//",
    "/a",
    "a/",
    "a//b",
    "/a/b/c",
    "a/b/c/",
    "a/b//c",
    "a/b/c/d/",
    "/a/b/c/d",
    "a/b/c/d/e",
    "a/b/c/d/e/f",
    "A",
    "aB",
    "a/B",
    "a/b/c/D",
    " ",
    " a",
    "a ",
    "a b",
    "a/b c",
    "a/ b",
    "abcdefghi",
    "a/abcdefghi",
    "abcdefghi/a",
    "a1",
    "a.b",
    "a\\b",
    "a/b\n",
    "a\n",
    "\u00e9",
    "a/\u0430",
)

GOOD_FILES = (
    {},
    {"a": ()},
    {"a": ("",), "b": ("",)},
    {"a/b/c/d": ("x", "y")},
    {"abcdefgh/abcdefgh/abcdefgh/abcdefgh": ("a" * 20,) * 50},
    {"ab": ("x",), "a": ("y",)},
    {"a/b": ("x",), "ab": ("y",), "abc/b": ()},
    {"a/bc": ("x",), "a/b": ("y",), "a/bcd/e": ("x",)},
    {"b/a": ("x",), "a/b": ("y",), "b/c": ("z",), "a/a/a/a": ("x",), "c": ("x",), "a/a/b": ()},
    {"b": ("x",), "a/b": ("x",), "a/a/b": ("x",), "a/a/a/b": ("x",)},
    {"x/c": ("same",), "y/c": ("same",), "z/x/c": ("same",)},
)

BAD_FILES = (
    # A path and one of its folders, in either order, near and far.
    {"a": ("x",), "a/b": ("y",)},
    {"a/b": ("x",), "a": ("y",)},
    {"a": (), "a/b/c/d": ()},
    {"a/b/c/d": (), "a": ()},
    {"a/b": (), "a/b/c/d": ()},
    {"a/b/c/d": (), "a/b/c": ()},
    {"a": (), "ab": (), "aa": (), "a/b": ()},
    {"a/b": (), "ab": (), "b": (), "c/d": (), "aa/b": (), "a": ()},
    {"a/b/c": (), "a/c": (), "a/bc": (), "a/b": (), "b": ()},
    # Paths that are none.
    {"": ()},
    {"a": ("x",), "/b": ()},
    {"b/": ()},
    {"a//b": ()},
    {"a/b/c/d/e": ()},
    {"a": (), "B": ()},
    {"a b": ()},
    {"a": (), "abcdefghi": ()},
    {None: ()},
    {1: ()},
    {True: ()},
    {("a",): ()},
    {"a": (), (): ()},
    {b"a": ()},
    {"a": (), None: ()},
    # Lines that are none.
    {"a": []},
    {"a": ["x"]},
    {"a": ("x",), "b": ["x"]},
    {"a": "x"},
    {"a": ""},
    {"a": None},
    {"a": {}},
    {"a": ("x", None)},
    {"a": ("x", 1)},
    {"a": (("x",),)},
    {"a": (["x"],)},
    {"a": (Odd(),)},
    {"a": Odd()},
    {"a": ("x" * 21,)},
    {"a": ("x\n",)},
    {"a": ("x", "5%")},
    {"a": (), "b": ("\t",)},
    {"a": {"b": ("x",)}},
    # What is no dict.
    None,
    True,
    0,
    "",
    "a",
    (),
    ("a", ()),
    (("a", ()),),
    [],
    ["a"],
    [("a", ())],
    set(),
    {"a"},
    1.5,
    Odd(),
    dict,
)
