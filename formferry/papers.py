"""Rows of parts: a part is a text, or a tuple of a name and a list of parts."""

TEXT_SIGN = "#"


# Rows nest deeper than calls safely do, so what waits is kept in a list.
def all_parts(row):
    found = []
    waiting = list(reversed(row))
    while waiting:
        part = waiting.pop()
        found.append(part)
        if not isinstance(part, str):
            waiting.extend(list(reversed(part[1])))
    return found


def size(row):
    return len(all_parts(row))


def texts(row):
    return [part for part in all_parts(row) if isinstance(part, str)]


def sign_of(part):
    return TEXT_SIGN if isinstance(part, str) else part[0]


def word(row):
    return [sign_of(part) for part in row]
