"""Rows of lines: what two of them have in common, and the spans between them."""

from annals.errors import NoFit
from annals.things import is_lines

COST_OF_A_SPAN = 2


def common_table(old, new):
    behind = [0] * (len(new) + 1)
    table = [behind]
    for line in reversed(old):
        behind = table_row(line, new, behind)
        table.append(behind)
    table.reverse()
    return table


def table_row(line, new, behind):
    row = [0] * (len(new) + 1)
    for k in range(len(new) - 1, -1, -1):
        if line == new[k]:
            row[k] = behind[k + 1] + 1
        else:
            row[k] = max(behind[k], row[k + 1])
    return row


def kept_pairs(old, new):
    table = common_table(old, new)
    pairs = []
    i = 0
    k = 0
    while i < len(old) and k < len(new):
        if old[i] == new[k]:
            pairs.append((i, k))
            i += 1
            k += 1
        elif table[i + 1][k] >= table[i][k + 1]:
            i += 1
        else:
            k += 1
    return pairs


def spans_of(old, new):
    spans = []
    low = 0
    start = 0
    # Both ends stand as a last pair, so that what lies behind the last kept
    # one is a gap like the others.
    for high, end in kept_pairs(old, new) + [(len(old), len(new))]:
        if low < high or start < end:
            spans.append((low, high, new[start:end]))
        low = high + 1
        start = end + 1
    return spans


def need_spans(old, rows):
    least = 0
    for low, high, lines in rows:
        if low < least or low > high or high > len(old):
            raise NoFit("the ends of a span don't fit")
        if not is_lines(lines):
            raise NoFit("what a span tells are no lines")
        if low == high and len(lines) == 0:
            raise NoFit("a span that changes nothing")
        least = high + 1


def patched(old, rows):
    need_spans(old, rows)
    return spans_done(old, rows)


def spans_done(old, rows):
    # Apart from the refusals, for spans that were made here: they fit, however
    # long the lines are.
    done = []
    place = 0
    for low, high, lines in rows:
        done.extend(old[place:low])
        done.extend(lines)
        place = high
    done.extend(old[place:])
    return tuple(done)


def cost_of(rows):
    return sum([COST_OF_A_SPAN + len(row[2]) for row in rows])
