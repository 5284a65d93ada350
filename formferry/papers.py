"""Rows of parts: a part is a text, or a tuple of a name and a list of parts."""

TEXT_SIGN = "#"


# Rows nest deeper than calls safely do, so what waits is kept in a list.
def all_parts(row):
    found = []
    waiting = list(reversed(row))
    while waiting:
        part = waiting.pop()
        found.append(part)
        if not isinstance(part, str):
            waiting.extend(list(reversed(part[1])))
    return found


def tuples_beneath(path, part):
    return [(path + [place], inner) for place, inner in enumerate(part[1]) if not isinstance(inner, str)]


# The tuples of a paper, each ahead of those within it and behind its path.
def tuples_with_paths(paper):
    found = []
    waiting = [([], paper)]
    while waiting:
        place = waiting.pop()
        found.append(place)
        waiting.extend(list(reversed(tuples_beneath(place[0], place[1]))))
    return found


def size(row):
    return len(all_parts(row))


def texts(row):
    return [part for part in all_parts(row) if isinstance(part, str)]


def sign_of(part):
    return TEXT_SIGN if isinstance(part, str) else part[0]


def word(row):
    return [sign_of(part) for part in row]
