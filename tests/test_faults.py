import copy
import random
import unittest

from formferry.forms import faults, is_paper
from tests.samples import A, B, C, NONE, TEXT, Cutter, all_papers, chain, either, is_new, many, maybe, one, random_form
from tests.samples import random_row, row, some, wanted_faults

LETTER = ("letter", [
    ("letter", row(one("head"), some(one("part")), maybe(one("end")))),
    ("head", TEXT),
    ("part", many(either(TEXT, one("bold"), one("part")))),
    ("bold", some(TEXT)),
    ("end", NONE),
])
HEAD = ("head", ["to"])

# Papers of the form LETTER, each with its faults.
LETTERS = [
    (("letter", [HEAD, ("part", [])]), []),
    (("letter", [HEAD, ("part", ["x", ("bold", ["y", ""])]), ("part", [("part", ["z"])]), ("end", [])]), []),
    # Another root: [] first, and once, also where the paper's own word does not fit or its name has no rule.
    (("part", []), [[]]),
    (("head", ["x"]), [[]]),
    (("head", []), [[]]),
    (("head", [("end", [])]), [[]]),
    (("other", []), [[]]),
    (("other", [HEAD, ("part", [])]), [[]]),
    (("part", [("bold", [])]), [[], [0]]),
    (("part", [("end", ["x"]), "y", ("bold", [])]), [[], [0], [2]]),
    # A word that does not fit.
    (("letter", []), [[]]),
    (("letter", [HEAD]), [[]]),
    (("letter", [("part", []), HEAD]), [[]]),
    (("letter", [HEAD, ("part", []), ("end", []), ("end", [])]), [[]]),
    (("letter", ["x", HEAD, ("part", [])]), [[]]),
    (("letter", [("head", []), ("part", [])]), [[0]]),
    (("letter", [HEAD, ("part", [("bold", [])])]), [[1, 0]]),
    (("letter", [HEAD, ("part", ["x", ("part", ["y", "z", ("part", [("bold", [])])])])]), [[1, 1, 2, 0]]),
    # A tuple without a rule, and what is within it.
    (("letter", [HEAD, ("other", [])]), [[], [1]]),
    (("letter", [HEAD, ("part", [("other", ["x"])])]), [[1], [1, 0]]),
    (("letter", [HEAD, ("part", [("other", ["x", ("bold", []), ("bold", ["y"])])])]), [[1], [1, 0], [1, 0, 1]]),
    (("other", [("other", [("other", [("bold", ["x"]), ("bold", [])])])]), [[], [0], [0, 0], [0, 0, 1]]),
    # Each ahead of what is within it, and that ahead of what stands behind.
    (("letter", [("head", [("bold", []), ("end", ["x"])]), "x", ("part", [("head", [])]), ("end", ["y"])]),
     [[], [0], [0, 0], [0, 1], [2], [2, 0], [3]]),
]


def nest(deep, inmost):
    for _ in range(deep):
        inmost = ("a", ["x", inmost])
    return inmost


class Checks(unittest.TestCase):
    def check(self, form, paper, wanted):
        form_before, paper_before = copy.deepcopy(form), copy.deepcopy(paper)
        self.assertEqual(faults(form, paper), wanted)
        self.assertIs(is_paper(form, paper), wanted == [])
        self.assertEqual(form, form_before)
        self.assertEqual(paper, paper_before)


class TestByHand(Checks):
    def test_letters(self):
        for paper, wanted in LETTERS:
            with self.subTest(paper=paper):
                self.check(LETTER, paper, wanted)

    def test_the_root_is_the_forms_not_the_first_rule(self):
        rules = [("a", maybe(B)), ("b", maybe(A))]
        self.check(("b", rules), ("b", [("a", [])]), [])
        self.check(("b", rules), ("a", [("b", [])]), [[]])
        self.check(("a", rules), ("a", [("b", [("a", [])])]), [])
        self.check(("a", rules), ("b", [("b", [])]), [[]])

    def test_the_root_may_stand_within(self):
        form = ("a", [("a", maybe(A)), ("b", NONE)])
        self.check(form, ("a", [("a", [])]), [])
        self.check(form, ("a", [("b", [])]), [[]])

    def test_texts_are_no_names(self):
        form = ("a", [("a", many(either(B, TEXT))), ("b", NONE)])
        self.check(form, ("a", ["b", "a", "#", "", "*"]), [])
        self.check(("a", [("a", B), ("b", NONE)]), ("a", ["b"]), [[]])

    def test_arguments_by_name(self):
        self.assertEqual(faults(form=LETTER, paper=("end", [])), [[]])
        self.assertIs(is_paper(form=LETTER, paper=("end", [])), False)

    def test_kinds(self):
        for paper, _ in LETTERS:
            told = faults(LETTER, paper)
            self.assertIs(type(told), list)
            for path in told:
                self.assertIs(type(path), list)
                self.assertLessEqual({type(step) for step in path}, {int})
            self.assertIs(type(is_paper(LETTER, paper)), bool)


class TestByCutting(Checks):
    def test_all_small_papers(self):
        forms = [
            ("a", [("a", many(either(A, B, TEXT))), ("b", NONE)]),
            ("a", [("a", row(maybe(B), maybe(TEXT), maybe(A))), ("b", some(either(TEXT, row(A, B))))]),
            ("b", [("b", either(row(TEXT, many(A)), NONE)), ("a", maybe(row(B, TEXT)))]),
        ]
        for form in forms:
            cutter = Cutter()
            counts = {True: 0, False: 0}
            for count in range(1, 6):
                for paper in all_papers(["a", "b", "z"][:3 if count < 5 else 2], count):
                    wanted = wanted_faults(form, paper, cutter)
                    counts[wanted == []] += 1
                    if faults(form, paper) != wanted or is_paper(form, paper) is not (wanted == []):
                        self.fail(f"{form} {paper}: {faults(form, paper)}, not {wanted}")
            self.assertGreater(min(counts.values()), 5)

    def test_many_forms(self):
        chance = random.Random(11)
        for _ in range(300):
            form = random_form(chance, ["c", "a", "b"])
            cutter = Cutter()
            for _ in range(10):
                paper = (chance.choice(["a", "b", "c", "z"]), random_row(chance, ["a", "b", "c", "c", "z"], 12))
                self.check(form, paper, wanted_faults(form, paper, cutter))


class TestLargePapers(Checks):
    def test_a_hundred_deep(self):
        form = ("a", [("a", row(maybe(TEXT), maybe(either(A, B)))), ("b", NONE)])
        for deep in [100, 130]:
            self.check(form, chain(deep), [])
            self.check(form, nest(deep - 1, ("b", [])), [])
            self.check(form, nest(deep - 1, ("b", ["x"])), [[1] * (deep - 1)])
            self.check(form, nest(deep - 1, ("z", [])), [[1] * (deep - 2), [1] * (deep - 1)])
            self.check(("b", form[1]), nest(deep - 1, ("b", ["x"])), [[], [1] * (deep - 1)])
            bare = ("b", [("b", NONE)])
            self.check(bare, chain(deep), [[0] * level for level in range(deep)])

    def test_two_thousand_parts(self):
        form = ("a", [("a", many(either(TEXT, B))), ("b", maybe(TEXT))])
        for count in [1999, 2300]:
            self.check(form, ("a", ["x"] * count), [])
            self.check(form, ("a", [("b", [])] * count), [])
            self.check(form, ("a", ["x"] * (count - 1) + [("a", [])]), [[]])
            self.check(form, ("a", ["x"] * (count - 2) + [("b", [("b", [])])]), [[count - 2]])
            self.check(form, ("a", [("z", [])] * count), [[]] + [[place] for place in range(count)])
        pairs = [("b", ["x"]), ("b", [("b", [])])] * 499
        self.check(form, ("a", pairs), [[place] for place in range(1, 998, 2)])

    def test_deep_and_wide_at_once(self):
        paper = ("a", ["x"] * 18)
        for _ in range(99):
            paper = ("a", ["x"] * 17 + [paper] + ["x"])
        form = ("a", [("a", row(many(TEXT), maybe(A)))])
        self.check(form, paper, [[17] * level for level in range(99)])
        self.check(("a", [("a", many(either(A, TEXT)))]), paper, [])

    def test_rich_patterns_beside_many_tuples(self):
        wide = row(*[maybe(one(name)) for name in "bcdefghij"], many(row(TEXT, some(A))))
        rules = [("a", wide)] + [(name, many(either(TEXT, A))) for name in "bcdefghij"]
        each = ("a", [("b", []), ("d", ["x"]), "x", ("a", []), ("a", [])])
        paper = ("a", ["x"] + [each] * 280)
        self.check(("a", rules), paper, [])
        self.check(("a", rules), ("a", paper[1] + ["x"]), [[]])


class TestOwned(unittest.TestCase):
    def test_what_is_told_is_the_askers_own(self):
        for paper, wanted in LETTERS:
            with self.subTest(paper=paper):
                told, again = faults(LETTER, paper), faults(LETTER, paper)
                self.assertTrue(is_new([told, again], LETTER, paper))
                for path in told:
                    path.append(7)
                told.append([8])
                self.assertEqual(again, wanted)
                self.assertEqual(faults(LETTER, paper), wanted)

    def test_parts_that_stand_at_two_places(self):
        shared = ("b", [("z", [])])
        form = ("a", [("a", many(B)), ("b", NONE)])
        told = faults(form, ("a", [shared, shared]))
        self.assertEqual(told, [[0], [0, 0], [1], [1, 0]])
        self.assertTrue(is_new(told, form, shared))

    def test_what_is_done_with_the_paper_or_the_form_afterwards(self):
        form = ("a", [("a", row(B, C)), ("b", NONE), ("c", NONE)])
        paper = ("a", [("b", []), ("c", ["x"])])
        told = faults(form, paper)
        paper[1][1][1].clear()
        self.assertEqual((told, faults(form, paper)), ([[1]], []))
        form[1][0][1][1].append(TEXT)
        self.assertEqual(faults(form, paper), [[]])
        paper[1].append("x")
        self.assertIs(is_paper(form, paper), True)


if __name__ == "__main__":
    unittest.main()
