"""Things: leaves, trees and notes, how they are spelled, and their digests."""

from annals.errors import NoThing

LONGEST_LINE = 20
LONGEST_LABEL = 8
MOST_PARENTS = 2

# Told by its number, since no text of this program may hold the sign itself.
PERCENT = 37

DIGEST_FACTOR = 31
DIGEST_BOUND = 97

LETTERS = {"leaf": "L", "tree": "T", "note": "N"}


def is_sign(sign):
    return " " <= sign <= "~" and ord(sign) != PERCENT


def is_line(thing):
    return isinstance(thing, str) and len(thing) <= LONGEST_LINE and all([is_sign(sign) for sign in thing])


def is_lines(thing):
    return isinstance(thing, tuple) and all([is_line(line) for line in thing])


def is_label(thing):
    if not isinstance(thing, str):
        return False
    return 1 <= len(thing) <= LONGEST_LABEL and all(["a" <= sign <= "z" for sign in thing])


def is_row(thing):
    return isinstance(thing, tuple) and len(thing) == 2 and is_label(thing[0]) and isinstance(thing[1], str)


def is_rows(thing):
    if not isinstance(thing, tuple) or not all([is_row(row) for row in thing]):
        return False
    labels = [row[0] for row in thing]
    return labels == sorted(set(labels))


def is_parents(thing):
    if not isinstance(thing, tuple) or not all([isinstance(name, str) for name in thing]):
        return False
    return len(thing) <= MOST_PARENTS and len(set(thing)) == len(thing)


def is_leaf(word, parts):
    return word == "leaf" and len(parts) == 1 and is_lines(parts[0])


def is_tree(word, parts):
    return word == "tree" and len(parts) == 1 and is_rows(parts[0])


def is_note(word, parts):
    if word != "note" or len(parts) != 3:
        return False
    return isinstance(parts[0], str) and is_parents(parts[1]) and is_line(parts[2])


def is_thing(thing):
    # The word must be known as a text before it is compared: what is no text
    # may answer a comparison in any way.
    if not isinstance(thing, tuple) or len(thing) == 0 or not isinstance(thing[0], str):
        return False
    word = thing[0]
    parts = thing[1:]
    return is_leaf(word, parts) or is_tree(word, parts) or is_note(word, parts)


def need_thing(thing):
    if not is_thing(thing):
        raise NoThing("this is no leaf, tree or note")
    return thing


def letter_of(thing):
    return LETTERS[thing[0]]


def tree_parts(rows):
    parts = []
    for label, name in rows:
        parts.append(label)
        parts.append(name)
    return parts


def parts_of(thing):
    if thing[0] == "leaf":
        return list(thing[1])
    if thing[0] == "tree":
        return tree_parts(thing[1])
    parents = thing[2]
    return [thing[1], str(len(parents))] + list(parents) + [thing[3]]


def counted(part):
    return str(len(part)) + ":" + part


def spelled(thing):
    return letter_of(thing) + "".join([counted(part) for part in parts_of(thing)])


def digest(thing):
    number = 0
    for sign in spelled(thing):
        number = (DIGEST_FACTOR * number + ord(sign)) % DIGEST_BOUND
    return number


def names_in(thing):
    if thing[0] == "leaf":
        return []
    if thing[0] == "tree":
        return [row[1] for row in thing[1]]
    return [thing[1]] + list(thing[2])
