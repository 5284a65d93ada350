import copy
import random
import unittest

from formferry.errors import FerryError, NoName, NoText, Stars, Twice
from formferry.forms import look
from formferry.texts import read_ferry, read_form, read_paper
from formferry.texts import show_ferry, show_form, show_pattern, show_row, shown
from tests.samples import A, B, C, D, NONE, TEXT, chain, depth_of, either, is_new, many, many_patterns, maybe, names
from tests.samples import nested, one, random_ferry, random_form, random_row, refusal_of, row, some, star, tuples_in

PAPERS = [
    (("a", []), 'a()'),
    (("abcdefghijkl", []), 'abcdefghijkl()'),
    (("a", [""]), 'a("")'),
    (("a", ["x"]), 'a("x")'),
    (("a", ["x", "y"]), 'a("x" "y")'),
    (("a", ["", "", " "]), 'a("" "" " ")'),
    (("a", [("b", [])]), 'a(b())'),
    (("a", [("b", []), ("c", [])]), 'a(b() c())'),
    (("a", [("b", [("c", [("d", [])])])]), 'a(b(c(d())))'),
    (("a", ["x", ("b", ["y", ("c", []), "z"]), ("b", []), ""]), 'a("x" b("y" c() "z") b() "")'),
    # Texts that look like what is written.
    (("a", ['"']), r'a("\q")'),
    (("a", ["\\"]), r'a("\\")'),
    (("a", ["\\q"]), r'a("\\q")'),
    (("a", ["\\\\"]), r'a("\\\\")'),
    (("a", ['\\"']), r'a("\\\q")'),
    (("a", ['"\\']), r'a("\q\\")'),
    (("a", ['""', '\\\\q"', "q"]), r'a("\q\q" "\\\\q\q" "q")'),
    (("a", ["a()", "b(", ")", " ", "-", "*", "#", "(", "'"]), '''a("a()" "b(" ")" " " "-" "*" "#" "(" "'")'''),
    (("a", ['" "', '"x']), r'a("\q \q" "\qx")'),
    (("form", [("a", [])]), 'form(a())'),
]

ROWS = [
    ([], '-'),
    ([star()], '*'),
    (["*"], '"*"'),
    (["-"], '"-"'),
    ([""], '""'),
    (["x", "y"], '"x" "y"'),
    ([("a", [])], 'a()'),
    ([("a", [star()])], 'a(*)'),
    ([("a", []), star(), "x"], 'a() * "x"'),
    ([star(), ("a", [])], '* a()'),
    ([("a", [("b", ["x", star(), ("c", [])]), "*"]), "y"], 'a(b("x" * c()) "*") "y"'),
    (["-", star()], '"-" *'),
    ([" -> ", ("a", [" = "])], '" -> " a(" = ")'),
]

PATTERNS = [
    (NONE, '-'),
    (TEXT, '#'),
    (A, 'a'),
    (one("abcdefghijkl"), 'abcdefghijkl'),
    (row(A, B), 'a b'),
    (row(A, TEXT, NONE, B), 'a # - b'),
    (either(A, B), 'a | b'),
    (either(A, TEXT, NONE), 'a | # | -'),
    (maybe(A), 'a?'),
    (many(A), 'a*'),
    (some(A), 'a+'),
    (maybe(NONE), '-?'),
    (some(TEXT), '#+'),
    # Each of the three behind each.
    (maybe(maybe(A)), 'a??'),
    (maybe(many(A)), 'a*?'),
    (maybe(some(A)), 'a+?'),
    (many(maybe(A)), 'a?*'),
    (many(many(A)), 'a**'),
    (many(some(A)), 'a+*'),
    (some(maybe(A)), 'a?+'),
    (some(many(A)), 'a*+'),
    (some(some(A)), 'a++'),
    (maybe(many(some(maybe(NONE)))), '-?+*?'),
    # A row or an any within a row, at each place.
    (row(row(A, B), C), '(a b) c'),
    (row(A, row(B, C)), 'a (b c)'),
    (row(A, row(B, C), D), 'a (b c) d'),
    (row(either(A, B), C), '(a | b) c'),
    (row(A, either(B, C)), 'a (b | c)'),
    (row(row(A, B), either(C, D)), '(a b) (c | d)'),
    (row(maybe(A), many(B), some(C)), 'a? b* c+'),
    # Within an any: a row stands as it is, an any does not.
    (either(row(A, B), C), 'a b | c'),
    (either(A, row(B, C)), 'a | b c'),
    (either(row(A, B), row(C, D)), 'a b | c d'),
    (either(either(A, B), C), '(a | b) | c'),
    (either(A, either(B, C)), 'a | (b | c)'),
    (either(A, either(B, C), row(D, NONE)), 'a | (b | c) | d -'),
    (either(maybe(A), many(B), some(C)), 'a? | b* | c+'),
    # Ahead of ?, * and +.
    (maybe(row(A, B)), '(a b)?'),
    (many(row(A, B)), '(a b)*'),
    (some(row(A, B)), '(a b)+'),
    (maybe(either(A, B)), '(a | b)?'),
    (many(either(A, B)), '(a | b)*'),
    (some(either(A, B)), '(a | b)+'),
    (many(maybe(row(A, B))), '(a b)?*'),
    # Deeper.
    (row(maybe(row(A, B)), C), '(a b)? c'),
    (either(maybe(row(A, B)), C), '(a b)? | c'),
    (either(maybe(either(A, B)), C), '(a | b)? | c'),
    (maybe(row(row(A, B), either(row(C, D), NONE))), '((a b) (c d | -))?'),
    (row(row(row(A, B), C), D), '((a b) c) d'),
    (either(either(either(A, B), C), D), '((a | b) | c) | d'),
    (row(either(row(A, B), C), D), '(a b | c) d'),
    (either(row(either(A, B), C), D), '(a | b) c | d'),
    (either(row(A, maybe(row(B, C))), D), 'a (b c)? | d'),
]

# Lines of which none is a pattern's.
NO_PATTERNS = """
(a)|(a b)|(a)?|((a b))?|((a b) c)|(-)|(#)|(a?)|(a b)?)|((a b)?|(|)|()|()?|a()|a(b c)|(a b)c|a (b)|(a) b|a ((b c))
|A|aB|1|a1|_|a_b|a-|-a|--|##|a#|#a|a.|"a"|a=b|->|?|*|+|?a|*a|+a|a ?|a *|a? ?|- ?|(a b) ?|( a b)?|(a b )?|(a  b)?
|a  b| a|a | a b|a b |a\tb|a? b |a?b|a*b|a+b|a?(b c)|(a b)(c d)|(a b)? )|)(|a)(b|\\|%|a,b|&|[a b]|{a b}|a:b
""".replace("\n", "").split("|") + [
    "a|b", "a |b", "a| b", "a  | b", "a |  b", "| a", "a |", "a | ", " | a", "|", " | ", "a | | b", "a || b",
    "(a b) | c", "a | (b c)", "(a | b)", "((a | b))", "((a | b)) c", "(a | b) | c)", "(a |b) c", "(a | b | ) c",
    "( | a) c", "(a | )?", "a | b?c", "a |? b", "a? |b", "(a b)? | (c d)", "((a b) | c) d", "(a | (b c))*",
]

NO_PARTS = [
    "", " ", "  ", "a", "a(", "a)", "a())", "(a())", "()", "(", ")", "a ()", "a( )", "a() ", " a()", "a(b())c()",
    "a()b()",
    "a(b()c())", "a(b()  c())", "a( b())", "a(b() )", "a(b() c()", "a(b)", "a(b c)", "A()", "aB()", "a1()", "_()",
    "#()",
    "#", '"', '"x', 'x"', '"x"y"', '"x""y"', '"x"  "y"', '"x"a()', 'a()"x"', 'a("x"b())', 'a("x', 'a("x)', 'a("x"',
    'a(x")',
    r'"\"', r'"\x"', r'"\n"', r'"\Q"', r'"\\\"', r'"\ "', r'"q\"', '"\n"', '"\t"', '"\u00e9"', '"\x7f"', '"\x1f"',
    "'x'", "a('x')",
    "-a()", "a() -", "- a()", "a(-)", "--", "- ", " -", "- -", '- "x"', "a(b(-))", "a->", "a=b", "a(#)", "a(())",
    "a()()",
    "a(b()())", "?", "+", "a()*", "a() | b()", "a,b", "a(b(),c())", "[]", "none", "\\", "a(\\)", "a()\n", "\na()",
]


def line_of(asked, *given):
    """What is refused of the lines that are handed in: the row's number; None where they read well."""
    try:
        asked(*given)
    except NoText as refusal:
        return refusal.row
    except FerryError:
        pass
    return None


class TestPapers(unittest.TestCase):
    def check(self, paper, line):
        kept = copy.deepcopy(paper)
        self.assertEqual(shown(paper), line)
        told = read_paper(line)
        self.assertEqual(told, paper)
        self.assertTrue(is_new(told, paper, read_paper(line)))
        self.assertEqual(paper, kept)

    def test_by_hand(self):
        for paper, line in PAPERS:
            with self.subTest(line=line):
                self.check(paper, line)

    def test_every_sign_of_a_text(self):
        for number in range(32, 127):
            sign = chr(number)
            if sign != "%":
                written = {'"': r"\q", "\\": r"\\"}.get(sign, sign)
                self.check(("a", [sign]), f'a("{written}")')
                self.check(("a", [f"x{sign}{sign}", ("b", [sign + "y"])]), f'a("x{written}{written}" b("{written}y"))')

    def test_all_short_texts_of_the_signs_that_matter(self):
        for text in [first + second + third for first in ["", '"', "\\", "q"] for second in ["", '"', "\\", "q"]
                     for third in ["", '"', "\\", "q", " "]]:
            written = "".join({'"': "\\q", "\\": "\\\\"}.get(sign, sign) for sign in text)
            self.check(("a", [text, text]), f'a("{written}" "{written}")')

    def test_refused(self):
        no_papers = ['"x"', '""', "*", "a(*)", "a(b(*))", "a(* b())", "-", "a() b()", "a() *", 'a() "x"', '"x" a()']
        for line in NO_PARTS + no_papers:
            with self.subTest(line=line):
                self.assertEqual(line_of(read_paper, line), 0)

    def test_kinds(self):
        told = read_paper('a("x" b())')
        self.assertEqual((told.__class__, told[1].__class__, told[1][1].__class__), (tuple, list, tuple))
        self.assertEqual(shown(told).__class__, str)

    def test_large_papers_are_written(self):
        deep = nested(100, ["x"])
        line = shown(deep)
        self.assertTrue(line.startswith('level("ahead 1" level("ahead 2" '))
        self.assertEqual((line.count("("), line.count(")")), (100, 100))
        self.assertEqual(shown(chain(100)), "a(" * 100 + ")" * 100)
        self.assertEqual(shown(("a", ["x" * 60] * 1999)), 'a("' + '" "'.join(["x" * 60] * 1999) + '")')
        self.assertEqual(shown(("a", [("b", [])] * 1999)), "a(" + " ".join(["b()"] * 1999) + ")")

    def test_lines_of_four_hundred_signs_and_thirty_deep(self):
        self.check(chain(30), "a(" * 30 + ")" * 30)
        for paper in [("a", ["x" * 60] * 6 + ["y" * 17]), ("a", [("b", [])] * 98 + [("bcd", [])]),
                      ("a", [""] * 132), ("a", ['"' * 60, "\\" * 60, '"\\' * 30, "x" * 26])]:
            self.assertIn(len(shown(paper)), range(398, 401))
            self.check(paper, shown(paper))
        part = ("a", ["x"] * 70)
        for level in range(29):
            part = ("b", [part]) if level % 2 else ("c", [part, ""])
        self.check(part, shown(part))

    def test_somewhat_deeper_and_longer(self):
        self.check(chain(60), "a(" * 60 + ")" * 60)
        for line in ["a(" * 60 + ")" * 59, "a(" * 60 + ")" * 61, "a(" * 60, ")" * 60]:
            self.assertEqual(line_of(read_paper, line), 0)
        self.check(("abcdefghijklm", ["x" * 70]), "abcdefghijklm(\"" + "x" * 70 + '")')

    def test_many_papers(self):
        chance = random.Random(19)
        for _ in range(300):
            inner = random_row(chance, ["a", "bc", "def"], chance.randint(0, 30))
            paper = ("root", inner)
            self.assertEqual(read_paper(shown(paper)), paper)

    def test_arguments_by_name(self):
        self.assertEqual(shown(paper=("a", [])), "a()")
        self.assertEqual(read_paper(line="a()"), ("a", []))


class TestFerries(unittest.TestCase):
    def check(self, ferry, rows):
        given = copy.deepcopy((ferry, rows))
        self.assertEqual(show_ferry(ferry), rows)
        told = read_ferry(rows)
        self.assertEqual(told, ferry)
        self.assertTrue(is_new(told, ferry, rows, read_ferry(rows)))
        self.assertTrue(is_new(show_ferry(ferry), ferry, rows, show_ferry(ferry)))
        self.assertEqual((ferry, rows), given)

    def test_rows_by_hand(self):
        for each, line in ROWS:
            with self.subTest(line=line):
                self.assertEqual(show_row(each), line)
                self.check([("a", each)], ["a -> " + line])
                self.check([("b", []), ("name", each), ("c", [star()])], ["b -> -", "name -> " + line, "c -> *"])

    def test_papers_are_rows_too(self):
        for paper, line in PAPERS:
            self.assertEqual(show_row([paper]), line)
            self.assertEqual(show_row([paper, star(), paper]), f"{line} * {line}")
            self.check([("a", [paper, "x"])], [f'a -> {line} "x"'])

    def test_no_rules(self):
        self.check([], [])

    def test_refused_rows(self):
        for line in NO_PARTS + ["*()", "**", "* *)", "a*", "*a()", "a(*b())", "a(*)*", "(*)", "*?"]:
            with self.subTest(line=line):
                self.assertEqual(line_of(read_ferry, ["a -> " + line]), 0)
                self.assertEqual(line_of(read_ferry, ["b -> -", "c -> *", "a -> " + line, "d -> "]), 2)

    def test_refused_around_the_arrow(self):
        for line in ["", " ", "a", "->", " -> ", "a ->", "a -> ", "a->-", "a ->-", "a-> -", "a  -> -", "a ->  -",
                     " a -> -",
                     "a -> - ", "-> -", " -> -", "A -> -", "a1 -> -", "a b -> -", "# -> -", "* -> -", "a() -> -",
                     "a - > -",
                     "a = -", "a -> b -> -", "a -> - -> -", "form a", '"a" -> -', "a -- -", "a >- -", "a -> -> -",
                     "a <- -"]:
            with self.subTest(line=line):
                self.assertEqual(line_of(read_ferry, [line]), 0)
                self.assertEqual(line_of(read_ferry, ["b -> *", line]), 1)

    def test_the_first_row_that_is_not_of_its_form(self):
        good, bad = "a -> -", "a -> "
        for place in range(5):
            rows = [good] * place + [bad] + [good, bad, ""]
            kept = list(rows)
            self.assertEqual(refusal_row(lambda: read_ferry(rows)), place)
            self.assertEqual(rows, kept)

    def test_what_reads_well_is_looked_at(self):
        for rows, wanted in [(["a -> -", "a -> *"], (Twice, "a")), (["a -> * *"], (Stars, "a")),
                             (["b -> -", "a -> b(* c(*))"], (Stars, "a")), (["a -> -", "a -> * *"], (Twice, "a")),
                             (["c -> *", 'b -> * "x" *', "c -> *"], (Stars, "b"))]:
            kept = list(rows)
            self.assertEqual(refusal_of(lambda: read_ferry(rows)), wanted)
            self.assertEqual(refusal_row(lambda: read_ferry(rows + ["d -> x"])), len(rows))
            self.assertEqual(refusal_row(lambda: read_ferry([""] + rows)), 0)
            self.assertEqual(rows, kept)

    def test_ferries_that_are_refused_are_written(self):
        self.assertEqual(show_ferry([("a", [star(), star()]), ("a", [("b", [star(), star()])])]),
                         ["a -> * *", "a -> b(* *)"])
        self.assertEqual(show_ferry([("c", []), ("c", [])]), ["c -> -", "c -> -"])
        self.assertEqual(show_row([star(), "x", star()]), '* "x" *')

    def test_large_rows(self):
        self.check([("a", [chain(29), star()])], ["a -> " + "a(" * 29 + ")" * 29 + " *"])
        self.check([(name, [star()]) for name in names(100)], [name + " -> *" for name in names(100)])
        self.assertEqual(show_row([chain(100)]), "a(" * 100 + ")" * 100)
        self.assertEqual(show_row(["x"] * 2000), " ".join(['"x"'] * 2000))

    def test_many_ferries(self):
        chance = random.Random(20)
        for _ in range(300):
            ferry = random_ferry(chance, ["a", "bc", "def", "g"])
            self.assertEqual(read_ferry(show_ferry(ferry)), ferry)

    def test_arguments_by_name(self):
        self.assertEqual(show_row(row=[]), "-")
        self.assertEqual(show_ferry(ferry=[("a", [])]), ["a -> -"])
        self.assertEqual(read_ferry(rows=["a -> -"]), [("a", [])])


def refusal_row(asked):
    """The number that NoText tells; it is to be that."""
    try:
        asked()
    except NoText as refusal:
        return refusal.row
    raise AssertionError("not refused")


class TestForms(unittest.TestCase):
    OTHERS = [("b", NONE), ("c", NONE), ("d", NONE), ("abcdefghijkl", NONE)]
    OTHER_ROWS = ["b = -", "c = -", "d = -", "abcdefghijkl = -"]

    def check(self, form, rows):
        given = copy.deepcopy((form, rows))
        self.assertEqual(show_form(form), rows)
        told = read_form(rows)
        self.assertEqual(told, form)
        self.assertEqual((told.__class__, told[1].__class__), (tuple, list))
        self.assertTrue(is_new(told, form, rows, read_form(rows)))
        self.assertTrue(is_new(show_form(form), form, rows, show_form(form)))
        self.assertEqual((form, rows), given)

    def test_patterns_by_hand(self):
        for pattern, line in PATTERNS:
            with self.subTest(line=line):
                self.assertEqual(show_pattern(pattern), line)
                self.check(("a", [("a", pattern)] + self.OTHERS), ["form a", "a = " + line] + self.OTHER_ROWS)

    def test_no_lines_of_patterns(self):
        for line in NO_PATTERNS:
            with self.subTest(line=line):
                self.assertEqual(line_of(read_form, ["form a", "a = " + line] + self.OTHER_ROWS), 1)
                self.assertEqual(line_of(read_form, ["form a", "a = b", "c = " + line, "d = ", "x"]), 2)

    def test_the_lines_that_the_document_names(self):
        def reads(line):
            return line_of(read_form, ["form a", "a = " + line] + self.OTHER_ROWS) is None
        self.assertEqual([reads(line) for line in ["a (b c)? | d", "(a b) c", "(a)", "(a b)", "a |b", "(a b) | c"]],
                         [True, True, False, False, False, False])

    def test_many_patterns(self):
        for pattern in many_patterns():
            line = show_pattern(pattern)
            rules = [("a", pattern)] + [(name, NONE) for name in "bcdefgh"]
            self.assertEqual(read_form(["form a", "a = " + line] + [name + " = -" for name in "bcdefgh"]), ("a", rules))

    def test_each_pattern_has_its_own_line(self):
        patterns = [repr(pattern) for pattern in many_patterns()]
        lines = [show_pattern(pattern) for pattern in many_patterns()]
        self.assertEqual(len(set(lines)), len(set(patterns)))

    def test_the_row_of_the_root(self):
        self.check(("a", [("a", NONE)]), ["form a", "a = -"])
        self.check(("form", [("form", maybe(one("form")))]), ["form form", "form = form?"])
        for line in ["", " ", "form", "form ", "form  a", " form a", "form a ", "Form a", "forma", "form A", "form a b",
                     "form #", "form -", "form a1", "form a = -", "a", "a = -", "form\ta", "for a", "form \"a\"",
                     "form a()"]:
            with self.subTest(line=line):
                for rest in [["a = -"], [], ["x"]]:
                    self.assertEqual(line_of(read_form, [line] + rest), 0)

    def test_no_rows_at_all(self):
        self.assertEqual(refusal_row(lambda: read_form([])), 0)

    def test_refused_around_the_sign(self):
        for line in ["", " ", "a", "=", " = ", "a =", "a = ", "a=-", "a =-", "a= -", "a  = -", "a =  -", " a = -",
                     "a = - ",
                     "= -", " = -", "A = -", "a1 = -", "a b = -", "# = -", "a -> -", "a = b = -", "a = - = -", "form a",
                     "a == -", "a = = -"]:
            with self.subTest(line=line):
                self.assertEqual(line_of(read_form, ["form b", line, "b = -"]), 1)
                self.assertEqual(line_of(read_form, ["form b", "b = -", "c = b", line]), 3)

    def test_the_first_row_that_is_not_of_its_form(self):
        for place in range(5):
            rows = ["form a"] + ["a = -"] * place + ["a = ", "a = -", "x", "form a"]
            kept = list(rows)
            self.assertEqual(refusal_row(lambda: read_form(rows)), place + 1)
            self.assertEqual(refusal_row(lambda: read_form(["form"] + rows[1:])), 0)
            self.assertEqual(rows, kept)

    def test_what_reads_well_is_looked_at(self):
        for rows, wanted in [(["form a"], (NoName, "a")), (["form a", "b = -"], (NoName, "a")),
                             (["form a", "a = b"], (NoName, "b")), (["form a", "a = -", "a = -"], (Twice, "a")),
                             (["form a", "a = # #"], (Twice, "a")), (["form z", "a = b (c | b)*"], (Twice, "a")),
                             (["form a", "a = c? b", "c = -"], (NoName, "b")),
                             (["form a", "a = a", "b = (c d)+ | e"], (NoName, "c"))]:
            kept = list(rows)
            self.assertEqual(refusal_of(lambda: read_form(rows)), wanted)
            self.assertEqual(refusal_row(lambda: read_form(rows + ["d = "])), len(rows))
            self.assertEqual(rows, kept)

    def test_forms_that_are_refused_are_written(self):
        self.assertEqual(show_form(("z", [("a", row(TEXT, TEXT)), ("a", either(B, B))])),
                         ["form z", "a = # #", "a = b | b"])
        self.assertEqual(show_form(("z", [])), ["form z"])
        self.assertEqual(show_pattern(many(row(A, A))), "(a a)*")

    def test_lines_of_four_hundred_signs_and_thirty_deep(self):
        long_names = ["abcdefghij" + each for each in names(60)[30:60]]
        wide = row(*[maybe(one(name)) for name in long_names[:28]])
        rules = [("a", wide)] + [(name, NONE) for name in long_names]
        self.assertIn(len(show_pattern(wide)), range(385, 400))
        self.check(("a", rules), ["form a", "a = " + show_pattern(wide)] + [name + " = -" for name in long_names])
        for wrap in [lambda inner, name: row(one(name), inner), lambda inner, name: either(inner, one(name)),
                     lambda inner, name: some(inner)]:
            deep = TEXT
            for name in names(29):
                deep = wrap(deep, name)
            self.assertEqual((depth_of(deep), tuples_in(deep) <= 60), (30, True))
            rows = show_form(("a", [("a", deep)] + [(name, NONE) for name in names(29)[1:]]))
            self.assertLessEqual(len(rows[1]), 400)
            self.check(("a", [("a", deep)] + [(name, NONE) for name in names(29)[1:]]), rows)
        self.check(("a", [("a", many(maybe(some(many(NONE)))))]), ["form a", "a = -*+?*"])

    def test_somewhat_deeper(self):
        for line in ["(" * 100, ")" * 100, "(" * 60 + "a b" + ")" * 60, "(" * 60 + "a b" + ")?" * 60 + ")",
                     "a" + "?" * 60 + "|"]:
            self.assertEqual(line_of(read_form, ["form a", "a = " + line]), 1)
        deep = A
        for _ in range(45):
            deep = maybe(deep)
        self.check(("a", [("a", deep)]), ["form a", "a = a" + "?" * 45])

    def test_many_forms(self):
        chance = random.Random(21)
        for _ in range(300):
            form = random_form(chance, ["a", "bc", "def", "g"], chance.choice([0.1, 0.5, 0.9]))
            look(form)
            self.assertEqual(read_form(show_form(form)), form)

    def test_arguments_by_name(self):
        self.assertEqual(show_pattern(pattern=A), "a")
        self.assertEqual(show_form(form=("a", [])), ["form a"])
        self.assertEqual(read_form(rows=["form a", "a = -"]), ("a", [("a", NONE)]))


if __name__ == "__main__":
    unittest.main()
