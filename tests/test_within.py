import copy
import random
import unittest

from formferry.errors import NoName, Twice
from formferry.judge import alike, lost, within
from tests.samples import A, B, C, NONE, TEXT, Z, AllPapers, Cutter, either, many, maybe, names, one, random_form
from tests.samples import refusal_of, row, some, wanted_faults

ROOMY = ("a", [("a", many(either(B, TEXT))), ("b", maybe(C)), ("c", NONE)])
NO_PAPER = ("a", [("a", row(TEXT, A))])
OTHER_NO_PAPER = ("b", [("b", some(C)), ("c", B)])
PLAIN = ("a", [("a", NONE)])

# Two forms, whether the first lies within the second, and the second within the first.
BY_HAND = [
    (PLAIN, PLAIN, True, True),
    (ROOMY, ROOMY, True, True),
    # The rules in another order; a rule more to which nothing leads.
    (ROOMY, ("a", ROOMY[1][::-1]), True, True),
    (ROOMY, ("a", ROOMY[1] + [("z", many(either(A, Z)))]), True, True),
    (ROOMY, ("a", [("z", TEXT)] + ROOMY[1]), True, True),
    (ROOMY, ("a", ROOMY[1][:2] + [("c", maybe(one("d"))), ("d", one("d"))]), True, True),
    # A pattern that says the same otherwise.
    (ROOMY, ("a", [("a", maybe(some(either(TEXT, maybe(B))))), ("b", either(C, NONE)), ("c", many(NONE))]), True, True),
    (("a", [("a", row(maybe(TEXT), maybe(A)))]), ("a", [("a", either(row(TEXT, maybe(A)), NONE))]), False, True),
    # Narrower at the root, deeper, and by its name alone.
    (("a", [("a", many(B)), ("b", maybe(C)), ("c", NONE)]), ROOMY, True, False),
    (("a", [("a", many(either(B, TEXT))), ("b", NONE)]), ROOMY, True, False),
    (("a", [("a", many(either(B, TEXT))), ("b", C), ("c", NONE)]), ROOMY, True, False),
    (("a", [("a", some(either(B, TEXT))), ("b", maybe(C)), ("c", NONE)]), ROOMY, True, False),
    (("a", [("a", row(many(TEXT), many(B))), ("b", maybe(C)), ("c", NONE)]), ROOMY, True, False),
    (PLAIN, ROOMY, True, False),
    # Neither.
    (("a", [("a", many(either(B, TEXT))), ("b", maybe(C)), ("c", TEXT)]), ROOMY, False, False),
    (("a", [("a", many(either(B, TEXT, A))), ("b", NONE)]), ROOMY, False, False),
    (PLAIN, ("a", [("a", TEXT)]), False, False),
    # Other roots.
    (PLAIN, ("b", [("b", NONE)]), False, False),
    (PLAIN, ("b", [("b", NONE), ("a", NONE)]), False, False),
    (("a", [("a", B), ("b", NONE)]), ("b", [("a", B), ("b", NONE)]), False, False),
    # Forms without a paper.
    (NO_PAPER, NO_PAPER, True, True),
    (NO_PAPER, OTHER_NO_PAPER, True, True),
    (NO_PAPER, ROOMY, True, False),
    (OTHER_NO_PAPER, PLAIN, True, False),
    # Wider only by names that cannot stand.
    (PLAIN, ("a", [("a", maybe(Z)), ("z", row(TEXT, Z))]), True, True),
    (("a", [("a", many(either(B, Z))), ("b", NONE), ("z", some(Z))]), ("a", [("a", many(B)), ("b", NONE)]), True, True),
]


class TestWithin(unittest.TestCase):
    def check(self, one_form, other, wanted):
        given = copy.deepcopy((one_form, other))
        self.assertIs(within(one_form, other), wanted)
        self.assertIs(lost(one_form, [], other) is None, wanted)
        self.assertEqual((one_form, other), given)

    def test_by_hand(self):
        for first, second, forth, back in BY_HAND:
            with self.subTest(first=first, second=second):
                self.check(first, second, forth)
                self.check(second, first, back)
                self.assertIs(alike(first, second), forth and back)
                self.assertIs(alike(second, first), forth and back)

    def test_many_forms(self):
        chance = random.Random(18)
        told = {True: 0, False: 0}
        for _ in range(600):
            known = names(chance.choice([1, 2, 2, 3]))
            first, second = random_form(chance, known, 0.3), random_form(chance, known, 0.6)
            if chance.random() < 0.7:
                second = (first[0], [rule if chance.random() < 0.6 else (rule[0], many(rule[1])) for rule in first[1]])
            with self.subTest(first=first, second=second):
                found = within(first, second)
                self.check(first, second, found)
                papers, cutter = AllPapers(first), Cutter()
                outside = [paper for count in range(1, 6) for paper in papers.papers(count)
                           if wanted_faults(second, paper, cutter)]
                if outside:
                    self.assertFalse(found)
                elif not found:
                    self.assertEqual(wanted_faults(first, lost(first, [], second), cutter), [])
                    self.assertNotEqual(wanted_faults(second, lost(first, [], second), cutter), [])
                self.assertIs(alike(first, second), found and within(second, first))
            told[found] += 1
        self.assertGreater(min(told.values()), 100)

    def test_the_refusals_and_their_order(self):
        twice, no_root, no_name = ("a", [("a", NONE), ("a", NONE)]), ("z", [("a", NONE)]), ("a", [("a", one("y"))])
        for asked in [within, alike]:
            for form, refusal, name in [(twice, Twice, "a"), (no_root, NoName, "z"), (no_name, NoName, "y")]:
                for other in [PLAIN, ("x", []), ("b", [("b", row(TEXT, TEXT))]), NO_PAPER]:
                    self.assertEqual(refusal_of(lambda: asked(form, other)), (refusal, name))
                for holding in [PLAIN, NO_PAPER, ("b", [("b", NONE)])]:
                    self.assertEqual(refusal_of(lambda: asked(holding, form)), (refusal, name))

    def test_arguments_by_name(self):
        self.assertIs(within(one=PLAIN, other=ROOMY), True)
        self.assertIs(alike(one=PLAIN, other=ROOMY), False)


if __name__ == "__main__":
    unittest.main()
