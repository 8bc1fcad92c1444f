"""How lines, changes and versions are told, as texts."""

from annals.lines import spans_of
from annals.rows import row_of
from annals.walks import add_before, words_of


def told_lines(lines):
    return ["|" + line for line in lines]


def told_spans(spans):
    told = []
    for low, high, lines in spans:
        told.append(f"  {low} {high}")
        told.extend(["  " + text for text in told_lines(lines)])
    return told


def told_changes(rows):
    told = []
    for path, before, after in rows:
        if before is None:
            told.append("+ " + path)
        elif after is None:
            told.append("- " + path)
        else:
            told.append("* " + path)
            told.extend(told_spans(spans_of(before, after)))
    return told


def told_log(store, version):
    if version is None:
        return []
    told = []
    found = {}
    # From the first one on, since what lies before a version lies before those
    # behind it, too: so each is found once, however long the row is.
    for name in row_of(store, None, version):
        add_before(store, found, name)
        number = len(found)
        words = words_of(store, name)
        told.append(f"{number} {words}")
    return list(reversed(told))
