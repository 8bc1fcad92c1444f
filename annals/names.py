"""Names, as all that keeps something by names is asked for them."""

from annals.errors import NoName


def is_key(table, thing):
    # Asked first, since what is no text may be nothing that a dict takes.
    return isinstance(thing, str) and thing in table


def need_name(store, name):
    if not store.has(name):
        raise NoName("there is no such name")
