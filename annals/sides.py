"""Files joined from three sides, path by path."""

from annals.joins import clean_lines, joined_lines
from annals.paths import folders_of


def joined_files(base, mine, yours):
    standing = {}
    clashing = {}
    for path in sorted(set(base) | set(mine) | set(yours)):
        outcome = joined_at(base.get(path), mine.get(path), yours.get(path))
        if outcome[0] == "clash":
            clashing[path] = True
        elif outcome[1] is not None:
            standing[path] = outcome[1]
    # All at once, since one that clashes by this stays in the way of others.
    blocked = in_the_way(standing)
    clashing.update(blocked)
    files = dict([(path, lines) for path, lines in standing.items() if path not in blocked])
    clashes = [(path, base.get(path), mine.get(path), yours.get(path)) for path in sorted(clashing)]
    return files, clashes


def joined_at(base, mine, yours):
    if mine == yours:
        return ("stands", mine)
    if mine == base:
        return ("stands", yours)
    if yours == base:
        return ("stands", mine)
    if base is None or mine is None or yours is None:
        return ("clash", None)
    lines = clean_lines(joined_lines(base, mine, yours))
    return ("clash", None) if lines is None else ("stands", lines)


def in_the_way(files):
    found = {}
    for path in files:
        for folder in folders_of(path):
            if folder in files:
                found[folder] = True
                found[path] = True
    return found
