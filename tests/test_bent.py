"""Lines that are not quite as they are written, held against other ways to tell what is a line."""

import itertools
import random
import re
import unittest

from formferry.errors import FerryError, NoText
from formferry.texts import read_ferry, read_form, read_paper
from tests.samples import random_ferry, random_form, random_row

PATTERN_SIGNS = "a#-()|?*+ "
ROW_SIGNS = 'a()"\\q *-'
OTHER_SIGNS = "zA1%.=>\\\"\n"


def pieces_between(line, between):
    """A line cut at the places outside all brackets where this stands."""
    found, deep, begin = [], 0, 0
    for place, sign in enumerate(line):
        deep += {"(": 1, ")": -1}.get(sign, 0)
        if deep == 0 and line.startswith(between, place) and place >= begin:
            found.append(line[begin:place])
            begin = place + len(between)
    return found + [line[begin:]]


def sort_of(line):
    """Of a line of a pattern whether it is a row, an any or another one; None of another line. Judged from outside to
    the inside, not read."""
    choices = pieces_between(line, " | ")
    if len(choices) > 1:
        return "any" if all(sort_of(each) is not None for each in choices) else None
    parts = pieces_between(line, " ")
    if len(parts) > 1:
        return "row" if all(sort_of_part(each) is not None for each in parts) else None
    if line.startswith("(") and line.endswith(")"):
        return "held any" if sort_of(line[1:-1]) == "any" else None
    return sort_of_part(line)


def sort_of_part(line):
    if line[-1:] and line[-1] in "?*+":
        return "other" if sort_of_part(line[:-1]) is not None else None
    if line.startswith("(") and line.endswith(")"):
        return "other" if sort_of(line[1:-1]) in ("row", "any") else None
    return "other" if re.fullmatch("[a-z]+|#|-", line) else None


def is_pattern_line(line):
    return sort_of(line) in ("row", "any", "other")


def folded(line, star):
    """Texts, then tuples from the inmost on, are exchanged for one sign each that no line has."""
    if re.search("[^ -~]|%", line):
        return "!"
    line = re.sub(r'"(?:[^"\\]|\\q|\\\\)*"', "\0", line)
    if star:
        line = line.replace("*", "\0")
    before = None
    while line != before:
        before, line = line, re.sub("[a-z]+\\((?:\0(?: \0)*)?\\)", "\0", line)
    return line


def is_row_line(line):
    return line == "-" or re.fullmatch("\0(?: \0)*", folded(line, True)) is not None


def is_paper_line(line):
    return folded(line, False) == "\0" and line[0] != '"'


def is_row_of(line, middle, is_line):
    """Whether a line is a name, the middle, and a line behind it."""
    found = re.match("[a-z]+" + middle, line)
    return found is not None and is_line(line[found.end():])


def outcome(asked):
    """What was read, or the number of the row that was refused; other refusals stand behind well read rows."""
    try:
        return "read", asked()
    except NoText as refusal:
        return "refused", refusal.row
    except FerryError as refusal:
        return "looked at", refusal.__class__


def written_part(part):
    """Another way to write: from the inmost parts on."""
    if isinstance(part, str):
        return '"' + "".join({'"': "\\q", "\\": "\\\\"}.get(sign, sign) for sign in part) + '"'
    if part[0] == "*":
        return "*"
    return part[0] + "(" + " ".join(written_part(each) for each in part[1]) + ")"


def written_row(row):
    return " ".join(written_part(part) for part in row) or "-"


def written_pattern(pattern, around=""):
    kind, inner = pattern[0], pattern[-1]
    if kind in ("none", "one"):
        return "-" if kind == "none" else inner
    if kind in ("maybe", "many", "some"):
        return written_pattern(inner, "mark") + {"maybe": "?", "many": "*", "some": "+"}[kind]
    line = {"row": " ", "any": " | "}[kind].join(written_pattern(each, kind) for each in inner)
    return line if (kind, around) in [("row", ""), ("any", ""), ("row", "any")] else f"({line})"


def bent(line, signs):
    """The line with one sign left out, put in, exchanged or doubled, and two neighbours exchanged, at every place."""
    found = {}
    for place in range(len(line) + 1):
        for sign in signs:
            found[line[:place] + sign + line[place:]] = True
            found[line[:place] + sign + line[place + 1:]] = True
        found[line[:place] + line[place + 1:]] = True
        found[line[:place] + line[place:place + 2][::-1] + line[place + 2:]] = True
    return [each for each in found if each != line]


class Checks(unittest.TestCase):
    def check_rule(self, line):
        """A row of a form, behind two others."""
        sort, told = outcome(lambda: read_form(["form a", "b = -", line]))
        if not is_row_of(line, " = ", is_pattern_line):
            self.assertEqual((sort, told), ("refused", 2), line)
        else:
            self.assertNotEqual(sort, "refused", line)
        if sort == "read":
            self.assertEqual([f"{name} = {written_pattern(pattern)}" for name, pattern in told[1]], ["b = -", line])
        return sort

    def check_ferry_row(self, line):
        sort, told = outcome(lambda: read_ferry(["b -> *", line]))
        if not is_row_of(line, " -> ", is_row_line):
            self.assertEqual((sort, told), ("refused", 1), line)
        else:
            self.assertNotEqual(sort, "refused", line)
        if sort == "read":
            self.assertEqual([f"{name} -> {written_row(row)}" for name, row in told], ["b -> *", line])
        return sort

    def check_paper(self, line):
        sort, told = outcome(lambda: read_paper(line))
        if is_paper_line(line):
            self.assertEqual((sort, written_part(told)), ("read", line))
        else:
            self.assertEqual((sort, told), ("refused", 0), line)
        return sort

    def check_all(self, check, lines, least):
        """Some lines of each outcome are among them, else nothing is found out."""
        counts = {}
        for line in lines:
            sort = check(line)
            counts[sort] = counts.get(sort, 0) + 1
        self.assertGreater(min(counts.get(sort, 0) for sort in least), 0, counts)


def all_lines(signs, longest):
    return ["".join(each) for length in range(longest + 1) for each in itertools.product(signs, repeat=length)]


class TestShortLines(Checks):
    """All lines of a few signs."""

    def test_patterns(self):
        self.check_all(self.check_rule, ["a = " + line for line in all_lines(PATTERN_SIGNS, 4)],
                       ["read", "refused", "looked at"])

    def test_longer_patterns(self):
        lines = ["".join(each) for each in itertools.product("a(|)? ", repeat=7) if each.count("(") == each.count(")")]
        self.check_all(self.check_rule, ["b = " + line for line in lines], ["refused", "looked at"])

    def test_rows(self):
        self.check_all(self.check_ferry_row, ["a -> " + line for line in all_lines(ROW_SIGNS, 5)],
                       ["read", "refused", "looked at"])

    def test_papers(self):
        self.check_all(self.check_paper, all_lines(ROW_SIGNS, 5), ["read", "refused"])

    def test_what_stands_between(self):
        self.check_all(self.check_rule, all_lines("a =-", 6), ["read", "refused"])
        self.check_all(self.check_ferry_row, all_lines("a ->", 6), ["read", "refused"])


class TestBentLines(Checks):
    """Lines that are well written, bent in one sign at every place."""

    PATTERNS = ["a (b # | -)? | a*+", "((a b)* # | a?) (b | a)+ -", "(a | (# -)?) | b b | a", "abc?*+ (a b) (# | a)"]
    ROWS = [r'a("x\\ \q" *) "" b(c() "y")', "- ", '* a() "*"', "abc(a(b(c(*))) b())", "-"]

    def test_rules_of_forms(self):
        for line in self.PATTERNS:
            lines = bent("ab = " + line, PATTERN_SIGNS + OTHER_SIGNS)
            self.check_all(self.check_rule, lines, ["refused", "looked at"])

    def test_rows_of_ferries(self):
        for line in self.ROWS:
            lines = bent("ab -> " + line, ROW_SIGNS + OTHER_SIGNS)
            self.check_all(self.check_ferry_row, lines, ["read", "refused"])

    def test_papers(self):
        for line in [r'a("x\\ \q" b()) ', r'a("x\\ \q" b(c() "") d("y"))', "a(b(c(d(e()))))", 'ab("" "" c())']:
            self.check_all(self.check_paper, bent(line, ROW_SIGNS + OTHER_SIGNS), ["read", "refused"])

    def test_the_row_of_the_root(self):
        for line in bent("form ab", "abform =" + OTHER_SIGNS):
            sort, told = outcome(lambda: read_form([line, "ab = #"]))
            if re.fullmatch("form [a-z]+", line):
                self.assertNotEqual(sort, "refused", line)
            else:
                self.assertEqual((sort, told), ("refused", 0), line)

    def test_many_lines(self):
        chance = random.Random(22)
        for _ in range(25):
            pattern = random_form(chance, ["a", "b", "cd"], 0.6)[1][0][1]
            for line in bent("b = " + written_pattern(pattern), "a (?)|"):
                self.check_rule(line)
            ferry = random_ferry(chance, ["a", "b", "cd"])
            for name, row in ferry:
                for line in bent(f"{name} -> {written_row(row)}", 'a (*)"-'):
                    self.check_ferry_row(line)
            paper = ("a", random_row(chance, ["a", "bc"], 6))
            for line in bent(written_part(paper), 'a (*)"\\q'):
                self.check_paper(line)


if __name__ == "__main__":
    unittest.main()
