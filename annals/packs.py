"""Packs, which keep what is reached from some names, leaves as spans from others where that is less."""

from annals.lines import COST_OF_A_SPAN, cost_of, spans_done, spans_of
from annals.names import is_key, need_name
from annals.reach import reached

MOST_STEPS = 4


def marked(lines):
    return dict([(line, True) for line in lines])


def least_cost(marks, lines):
    lacking = len([line for line in lines if line not in marks])
    return COST_OF_A_SPAN + lacking if lacking > 0 else 0


def best_base(bases, lines):
    best = (None, ("leaf", lines))
    least = len(lines)
    # From the last one on, so that of several that cost the same the one
    # taken last stays.
    for name, old, marks in reversed(bases):
        # Spans tell each line that the base lacks: where these alone cost too
        # much, they need not be looked for, which takes far longer.
        if least_cost(marks, lines) < least:
            spans = spans_of(old, lines)
            cost = cost_of(spans)
            if cost < least:
                best = (name, spans)
                least = cost
    return best


class Pack:

    def __init__(self, store, roots):
        self.base_by_name = {}
        self.part_by_name = {}
        bases = []
        for name in reached(store, roots):
            thing = store.thing(name)
            if thing[0] == "leaf":
                self.take_leaf(name, thing[1], bases)
            else:
                self.take(name, (None, thing))

    def take(self, name, packed):
        self.base_by_name[name] = packed[0]
        self.part_by_name[name] = packed[1]

    def take_leaf(self, name, lines, bases):
        self.take(name, best_base(bases, lines))
        if self.steps(name) < MOST_STEPS:
            bases.append((name, lines, marked(lines)))

    def has(self, name):
        return is_key(self.base_by_name, name)

    def base_at(self, name):
        need_name(self, name)
        return self.base_by_name[name]

    def thing(self, name):
        base = self.base_at(name)
        part = self.part_by_name[name]
        return part if base is None else ("leaf", spans_done(self.thing(base)[1], part))

    def names(self):
        return list(self.base_by_name)

    def steps(self, name):
        base = self.base_at(name)
        return 0 if base is None else 1 + self.steps(base)

    def weight_at(self, name):
        part = self.part_by_name[name]
        if self.base_by_name[name] is not None:
            return cost_of(part)
        return len(part[1]) if part[0] == "leaf" else 0

    def weight(self):
        return sum([self.weight_at(name) for name in self.base_by_name])
