"""Lines joined from three sides: the base, from which both others came, mine and yours."""

from annals.lines import spans_done, spans_of

# The places within a group of its spans of the one side and of the other.
ONES = 2
OTHERS = 3


def near_spans(one, other):
    return one[0] <= other[1] and other[0] <= one[1]


def groups_of(ones, others):
    groups = []
    # Low ends rise here, so a span that is not near the last group is near
    # none, and neither is any that comes behind it.
    for span, place in sorted([(one, ONES) for one in ones] + [(other, OTHERS) for other in others]):
        if len(groups) == 0 or not near_spans(groups[-1], span):
            groups.append((span[0], span[1], [], []))
        last = groups.pop()
        last[place].append(span)
        groups.append((last[0], max(last[1], span[1]), last[ONES], last[OTHERS]))
    return groups


def side_lines(base, low, high, rows):
    return spans_done(base[low:high], [(row[0] - low, row[1] - low, row[2]) for row in rows])


def joined_lines(base, mine, yours):
    parts = []
    place = 0
    for low, high, ones, others in groups_of(spans_of(base, mine), spans_of(base, yours)):
        add_same(parts, base[place:low])
        my_lines = side_lines(base, low, high, ones)
        your_lines = side_lines(base, low, high, others)
        if len(ones) == 0 or my_lines == your_lines:
            add_same(parts, your_lines)
        elif len(others) == 0:
            add_same(parts, my_lines)
        else:
            parts.append(("clash", base[low:high], my_lines, your_lines))
        place = high
    add_same(parts, base[place:])
    return parts


def add_same(parts, lines):
    ahead = ()
    if len(parts) > 0 and parts[-1][0] == "same":
        last = parts.pop()
        ahead = last[1]
    if len(ahead + lines) > 0:
        parts.append(("same", ahead + lines))


def clean_lines(parts):
    lines = []
    for part in parts:
        if part[0] == "clash":
            return None
        lines.extend(part[1])
    return tuple(lines)


def turned_parts(parts):
    return [turned_part(part) for part in parts]


def turned_part(part):
    if part[0] == "same":
        return part
    return ("clash", part[1], part[3], part[2])
