"""What is reached from some names of a store."""

from annals.names import need_name
from annals.things import names_in


def add_found(store, found, roots, names_behind):
    # A list of what is still to be looked at, in the place of calls within
    # calls: a row of versions may be of any length.
    left = list(roots)
    while len(left) > 0:
        name = left.pop()
        if name not in found:
            found[name] = True
            left.extend(names_behind(store.thing(name)))


def in_order(store, found):
    return [name for name in store.names() if name in found]


def reached(store, roots):
    for root in roots:
        need_name(store, root)
    found = {}
    add_found(store, found, roots, names_in)
    return in_order(store, found)
