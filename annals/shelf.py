"""Shelves, which keep things by names."""

from annals.errors import NoName
from annals.names import is_key, need_name
from annals.things import digest, letter_of, need_thing


class Shelf:

    def __init__(self, base):
        self.thing_by_name = {}
        self.name_by_thing = {}
        self.next_numbers = {}
        # Nothing is put into a base any more, so it is read once, here: no
        # question has to go down a row of bases then, however long it is.
        if base is not None:
            for name in base.names():
                self.take(name, base.thing(name))

    def take(self, name, thing):
        halves = name.partition(".")
        head = halves[0]
        # A pack may lack some numbers, and a name with a smaller one may come
        # behind one with a greater one.
        self.next_numbers[head] = max(self.next_numbers.get(head, 0), int(halves[2]) + 1)
        self.thing_by_name[name] = thing
        self.name_by_thing[thing] = name

    def put(self, thing):
        need_thing(thing)
        self.need_names(thing)
        if thing in self.name_by_thing:
            return self.name_by_thing[thing]
        head = letter_of(thing) + str(digest(thing))
        number = self.next_numbers.get(head, 0)
        name = f"{head}.{number}"
        self.take(name, thing)
        return name

    def need_names(self, thing):
        if thing[0] == "tree":
            for row in thing[1]:
                self.need_form(row[1], ("leaf", "tree"))
        if thing[0] == "note":
            self.need_form(thing[1], ("tree",))
            for parent in thing[2]:
                self.need_form(parent, ("note",))

    def need_form(self, name, forms):
        if self.thing(name)[0] not in forms:
            raise NoName("a name within is one of another form")

    def has(self, name):
        return is_key(self.thing_by_name, name)

    def thing(self, name):
        need_name(self, name)
        return self.thing_by_name[name]

    def names(self):
        return list(self.thing_by_name)
