"""Papers, forms and ferries written as lines, and read again."""

from formferry.errors import NoText
from formferry.ferries import STAR, look_ferry, stars
from formferry.forms import look
from formferry.scan import QUOTE, is_name, is_text, scanned_pattern, scanned_row

NOTHING = "-"
MARKS = {"maybe": "?", "many": "*", "some": "+"}


def quoted(text):
    return QUOTE + text.replace("\\", "\\\\").replace(QUOTE, "\\q") + QUOTE


# Rows nest deeper than calls safely do, so what waits is kept in a list; None there closes a tuple.
def pieces(row):
    found = []
    waiting = list(reversed(row))
    while waiting:
        part = waiting.pop()
        if part is None:
            found.append(")")
        elif isinstance(part, str):
            found.append(quoted(part))
        elif part[0] == STAR:
            found.append(STAR)
        else:
            found.append(part[0] + "(")
            waiting.append(None)
            waiting.extend(list(reversed(part[1])))
    return found


def glue(left, right):
    return "" if left.endswith("(") or right == ")" else " "


def written(row):
    found = pieces(row)
    told = found[:1]
    for left, right in zip(found, found[1:]):
        told.append(glue(left, right))
        told.append(right)
    return "".join(told)


def shown(paper):
    return written([paper])


def show_row(row):
    return written(row) if row else NOTHING


# Between brackets where it is of one of these kinds.
def held(pattern, kinds):
    line = show_pattern(pattern)
    return "(" + line + ")" if pattern[0] in kinds else line


def show_pattern(pattern):
    kind = pattern[0]
    if kind == "none":
        return NOTHING
    if kind == "one":
        return pattern[1]
    if kind == "row":
        return " ".join([held(inner, ("row", "any")) for inner in pattern[1]])
    if kind == "any":
        return " | ".join([held(inner, ("any",)) for inner in pattern[1]])
    return held(pattern[1], ("row", "any")) + MARKS[kind]


def show_form(form):
    return ["form " + form[0]] + [name + " = " + show_pattern(pattern) for name, pattern in form[1]]


def show_ferry(ferry):
    return [name + " -> " + show_row(row) for name, row in ferry]


# What is scanned is of the line only where it is written just so; else None is told, here and below.
def read_row(line):
    row = [] if line == NOTHING else scanned_row(line)
    return row if is_text(line) and row is not None and show_row(row) == line else None


def read_pattern(line):
    pattern = scanned_pattern(line)
    return pattern if pattern is not None and show_pattern(pattern) == line else None


def read_paper(line):
    row = read_row(line)
    if row is None or len(row) != 1 or isinstance(row[0], str) or stars(row) > 0:
        raise NoText(0)
    return row[0]


# No name has a blank in it, so the first place that looks like the middle is the middle.
def read_rule(line, middle, reader):
    cut = line.partition(middle)
    told = reader(cut[2])
    return (cut[0], told) if is_name(cut[0]) and told is not None else None


def read_rules(lines, middle, reader, first):
    rules = []
    for place, line in enumerate(lines, start=first):
        rule = read_rule(line, middle, reader)
        if rule is None:
            raise NoText(place)
        rules.append(rule)
    return rules


def read_form(rows):
    head = rows[0].partition(" ") if rows else ("", "", "")
    if head[0] != "form" or not is_name(head[2]):
        raise NoText(0)
    form = (head[2], read_rules(rows[1:], " = ", read_pattern, 1))
    look(form)
    return form


def read_ferry(rows):
    ferry = read_rules(rows, " -> ", read_row, 0)
    look_ferry(ferry)
    return ferry
