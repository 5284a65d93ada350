import copy
import unittest

from formferry.errors import NoName, Twice
from formferry.forms import faults, is_paper, least, look, prices
from tests.samples import A, B, C, D, NONE, TEXT, Z, either, many, maybe, names, one, refusal_of, row, some

HOLDING = [
    ("a", [("a", NONE)]),
    ("a", [("a", TEXT)]),
    ("a", [("a", A)]),
    ("b", [("a", B), ("b", A)]),
    ("a", [("a", row(B, TEXT)), ("b", maybe(A))]),
    ("a", [("b", many(either(A, B, TEXT))), ("a", many(either(A, B, TEXT)))]),
    ("paper", [("list", some(one("item"))), ("item", many(TEXT)), ("paper", row(one("list"), maybe(one("end")))),
               ("end", NONE)]),
    # A rule that nothing leads to, and names called like the sorts.
    ("a", [("a", NONE), ("z", Z)]),
    ("none", [("none", row(one("one"), one("any"))), ("one", NONE), ("any", some(one("none")))]),
]

# A form, the refusal and the name that it tells.
REFUSED = [
    # A rule's name twice: straight behind, later, by the same pattern and by another.
    (("a", [("a", NONE), ("a", NONE)]), Twice, "a"),
    (("a", [("a", NONE), ("b", TEXT), ("a", many(B))]), Twice, "a"),
    (("a", [("a", NONE), ("b", TEXT), ("c", NONE), ("b", TEXT)]), Twice, "b"),
    (("a", [("a", NONE), ("b", NONE), ("b", NONE), ("a", NONE)]), Twice, "b"),
    # A sign twice in a pattern: a name, #, side by side, apart, at other depths.
    (("a", [("a", row(B, B)), ("b", NONE)]), Twice, "a"),
    (("a", [("a", either(TEXT, TEXT))]), Twice, "a"),
    (("a", [("a", NONE), ("b", row(TEXT, A, TEXT))]), Twice, "b"),
    (("a", [("a", row(A, maybe(many(some(A)))))]), Twice, "a"),
    (("a", [("a", NONE), ("b", either(many(row(C, A)), row(TEXT, maybe(C)))), ("c", NONE)]), Twice, "b"),
    (("a", [("a", row(maybe(TEXT), either(A, some(TEXT))))]), Twice, "a"),
    # A sign twice ahead of a name that stands twice, and behind it.
    (("a", [("a", NONE), ("b", row(A, A)), ("a", NONE)]), Twice, "b"),
    (("a", [("a", NONE), ("b", row(TEXT, TEXT)), ("a", NONE)]), Twice, "b"),
    (("a", [("a", NONE), ("c", NONE), ("c", NONE), ("b", row(A, A))]), Twice, "c"),
    (("a", [("a", NONE), ("c", NONE), ("c", NONE), ("b", row(TEXT, TEXT))]), Twice, "c"),
    (("a", [("a", NONE), ("a", row(TEXT, TEXT)), ("b", row(A, A))]), Twice, "a"),
    # The root has no rule.
    (("a", []), NoName, "a"),
    (("b", [("a", NONE)]), NoName, "b"),
    (("b", [("a", B)]), NoName, "b"),
    (("ab", [("a", NONE), ("b", NONE), ("abc", NONE)]), NoName, "ab"),
    # A name in a pattern has none: the first in the pattern's order, of the first such rule.
    (("a", [("a", B)]), NoName, "b"),
    (("a", [("a", many(either(A, TEXT, row(D, C, B))))]), NoName, "d"),
    (("a", [("a", row(TEXT, A, Z, B))]), NoName, "z"),
    (("a", [("a", NONE), ("c", row(maybe(Z), B)), ("d", one("e"))]), NoName, "z"),
    (("a", [("c", either(A, C)), ("a", some(one("ab"))), ("d", one("e"))]), NoName, "ab"),
    (("a", [("a", B), ("c", D)]), NoName, "b"),
    (("a", [("c", D), ("a", B)]), NoName, "d"),
    # Two faults at once: each Twice ahead of each NoName, the root ahead of the patterns.
    (("z", [("a", B), ("c", NONE), ("c", NONE)]), Twice, "c"),
    (("z", [("a", B), ("c", row(TEXT, TEXT))]), Twice, "c"),
    (("a", [("a", B), ("c", NONE), ("c", NONE)]), Twice, "c"),
    (("a", [("a", row(B, B))]), Twice, "a"),
    (("z", [("a", row(Z, Z))]), Twice, "a"),
    (("z", [("a", B)]), NoName, "z"),
    (("z", [("a", row(C, B)), ("b", D)]), NoName, "z"),
]


class TestLook(unittest.TestCase):
    def test_forms_that_hold_together(self):
        for form in HOLDING:
            with self.subTest(form=form):
                before = copy.deepcopy(form)
                self.assertIsNone(look(form))
                self.assertEqual(form, before)

    def test_refusals(self):
        for form, refusal, name in REFUSED:
            with self.subTest(form=form):
                before = copy.deepcopy(form)
                self.assertEqual(refusal_of(lambda: look(form)), (refusal, name))
                self.assertEqual(form, before)

    def test_every_other_refuses_likewise(self):
        for form, refusal, name in REFUSED:
            # A part whose name is the root's, one that no rule leads to, and one with a rule.
            for asked_for in [form[0], "other", "a"]:
                asked = [lambda: faults(form, (asked_for, [])), lambda: is_paper(form, (asked_for, ["x"])),
                         lambda: prices(form), lambda: least(form, asked_for)]
                for place, each in enumerate(asked):
                    with self.subTest(form=form, asked_for=asked_for, place=place):
                        before = copy.deepcopy(form)
                        self.assertEqual(refusal_of(each), (refusal, name))
                        self.assertEqual(form, before)

    def test_arguments_by_name(self):
        self.assertIsNone(look(form=HOLDING[0]))

    def test_the_order_of_rules_decides_nothing_else(self):
        for form in HOLDING:
            self.assertIsNone(look((form[0], form[1][::-1])))

    def test_many_rules(self):
        # Ten rules, and somewhat beyond; each pattern has every name and #.
        for count in [10, 14]:
            given = names(count)
            whole = many(either(*[one(sign) for sign in given + ["#"]]))
            rules = [(name, whole) for name in given]
            self.assertIsNone(look((given[-1], rules)))
            self.assertEqual(refusal_of(lambda: look((given[0], rules[1:]))), (NoName, given[0]))
            self.assertEqual(refusal_of(lambda: look((given[0], rules[:-1]))), (NoName, given[-1]))
            self.assertEqual(refusal_of(lambda: look((given[0], rules + rules[3:4]))), (Twice, given[3]))

    def test_deep_and_wide_patterns(self):
        for deep in [29, 40]:
            inmost, twice = TEXT, row(TEXT, TEXT)
            for level in range(deep):
                inmost, twice = [many, maybe, some][level % 3](inmost), [many, maybe, some][level % 3](twice)
            self.assertIsNone(look(("a", [("a", inmost)])))
            self.assertEqual(refusal_of(lambda: look(("a", [("a", twice)]))), (Twice, "a"))
        wide = row(*[NONE] * 58)
        self.assertIsNone(look(("a", [("a", row(wide, A))])))
        self.assertEqual(refusal_of(lambda: look(("a", [("a", row(A, wide, A))]))), (Twice, "a"))

    def test_a_refused_form_that_is_mended_is_taken(self):
        form = ("a", [("a", many(B))])
        self.assertEqual(refusal_of(lambda: look(form)), (NoName, "b"))
        form[1].append(("b", NONE))
        self.assertIsNone(look(form))
        form[1].append(("b", NONE))
        self.assertEqual(refusal_of(lambda: look(form)), (Twice, "b"))


if __name__ == "__main__":
    unittest.main()
