import copy
import random
import unittest

from formferry.errors import NoName, Stars, Twice
from formferry.ferries import arrives, ferried, joined, look_ferry
from tests.samples import NONE, chain, followed, is_new, lists_in, many, maybe, names, nested, one, random_ferry
from tests.samples import random_row, refusal_of, star

FORM = ("a", [("a", NONE)])

HOLDING = [
    [],
    [("a", [])],
    [("a", ["x"])],
    [("a", [star()])],
    [("a", [("a", [star()])])],
    [("a", ["x", ("b", ["y", ("c", [star(), "z"])]), ("d", [])])],
    [("a", [star()]), ("b", [star()]), ("c", [("a", [star()])])],
    # Texts that look like the star are none.
    [("a", ["*", star(), "*", ("b", ["*"])])],
]

# A ferry, the refusal and the name that it tells.
REFUSED = [
    ([("a", []), ("a", [])], Twice, "a"),
    ([("a", []), ("b", []), ("a", [star()])], Twice, "a"),
    ([("a", []), ("b", []), ("c", []), ("b", [])], Twice, "b"),
    # Two stars side by side, at other depths, within one tuple, far apart, and more than two.
    ([("a", [star(), star()])], Stars, "a"),
    ([("a", [star(), "x", star()])], Stars, "a"),
    ([("a", [star(), ("b", [star()])])], Stars, "a"),
    ([("a", [("b", [star()]), star()])], Stars, "a"),
    ([("a", [("b", [star(), star()])])], Stars, "a"),
    ([("a", [("b", [("c", [("d", [star()])]), ("c", [])]), ("b", ["x", ("c", [star()])])])], Stars, "a"),
    ([("a", [("b", [star(), ("b", [star(), ("b", [star()])])])])], Stars, "a"),
    ([("a", [star()]), ("b", [star(), star()])], Stars, "b"),
    # Twice ahead of Stars in one rule, else by the first rule that is at fault.
    ([("a", []), ("a", [star(), star()])], Twice, "a"),
    ([("a", [star(), star()]), ("a", [])], Stars, "a"),
    ([("a", [star(), star()]), ("a", [star(), star()])], Stars, "a"),
    ([("a", []), ("b", [star(), star()]), ("a", [])], Stars, "b"),
    ([("a", []), ("c", []), ("c", []), ("b", [star(), star()])], Twice, "c"),
    ([("a", []), ("b", []), ("b", [star(), star()]), ("c", [star(), star()])], Twice, "b"),
    ([("c", []), ("b", [star(), star()]), ("a", [star(), star()])], Stars, "b"),
]

# A ferry, a row and what it is ferried to.
BY_HAND = [
    ([], [], []),
    ([("a", ["x"])], [], []),
    ([], ["x", "", "x"], ["x", "", "x"]),
    ([("a", ["x"])], ["a", "*", "#"], ["a", "*", "#"]),
    # Names without a rule stay, and what is within them is ferried.
    ([], [("a", [])], [("a", [])]),
    ([], [("a", ["x", ("b", [("c", [])])]), "y"], [("a", ["x", ("b", [("c", [])])]), "y"]),
    ([("b", ["y"])], [("a", ["x", ("b", ["z"]), ("c", [("b", [])])])], [("a", ["x", "y", ("c", ["y"])])]),
    # The star at the top: alone, between others, for none, one and more parts.
    ([("a", [star()])], [("a", [])], []),
    ([("a", [star()])], [("a", ["x"])], ["x"]),
    ([("a", [star()])], [("a", ["x", ("b", []), "y"])], ["x", ("b", []), "y"]),
    ([("a", ["(", star(), ")"])], [("a", [])], ["(", ")"]),
    ([("a", ["(", star(), ")"])], ["1", ("a", ["x", "y"]), "2"], ["1", "(", "x", "y", ")", "2"]),
    ([("a", ["(", star(), ")"])], [("a", ["x", ("a", ["y", ("a", [])]), "z"])],
     ["(", "x", "(", "y", "(", ")", ")", "z", ")"]),
    # The star within.
    ([("a", [("b", [star()])])], [("a", ["x", "y"])], [("b", ["x", "y"])]),
    ([("a", ["1", ("b", ["2", ("c", ["3", star(), "4"]), "5"]), ("d", []), "6"])], [("a", [("e", ["x"]), "y"])],
     ["1", ("b", ["2", ("c", ["3", ("e", ["x"]), "y", "4"]), "5"]), ("d", []), "6"]),
    ([("a", [("b", [star()])])], [("a", [("a", [("a", [])])])], [("b", [("b", [("b", [])])])]),
    # No star: what is within is gone, whatever it would have been ferried to.
    ([("a", ["y"])], [("a", ["x", ("a", []), ("b", [])])], ["y"]),
    ([("a", [("b", ["y"])]), ("c", ["z"])], [("a", [("c", [])]), ("c", [("a", [])])], [("b", ["y"]), "z"]),
    ([("a", [])], [("a", ["x"])], []),
    ([("a", [])], ["x", ("a", ["y"]), ("b", [("a", []), ("a", [("b", [])])])], ["x", ("b", [])]),
    # What a rule lays down is not ferried once more.
    ([("a", [("a", [star()])])], [("a", ["x"])], [("a", ["x"])]),
    ([("a", [("b", [star()])]), ("b", [("a", [star()])])], [("a", [("b", ["x"])])], [("b", [("a", ["x"])])]),
    ([("a", [("b", [("c", [])]), star()]), ("b", []), ("c", ["no"])], [("a", [("c", []), ("b", [])])],
     [("b", [("c", [])]), "no"]),
    ([("a", [("a", [("a", [star()])]), "a"])], [("a", [("a", [])])],
     [("a", [("a", [("a", [("a", [])]), "a"])]), "a"]),
    # The texts * and the star in one row.
    ([("a", ["*", star(), ("b", ["*"])])], [("a", ["x"])], ["*", "x", ("b", ["*"])]),
    # Two rules that stand for one another's parts.
    ([("b", [star(), "b"]), ("a", ["a", star()])], [("a", [("b", ["x"]), ("b", [("a", [])])]), ("b", [])],
     ["a", "x", "b", "a", "b", "b"]),
]


class TestLookFerry(unittest.TestCase):
    def test_ferries_that_hold_together(self):
        for ferry in HOLDING:
            with self.subTest(ferry=ferry):
                before = copy.deepcopy(ferry)
                self.assertIsNone(look_ferry(ferry))
                self.assertEqual(ferry, before)

    def test_refusals(self):
        for ferry, refusal, name in REFUSED:
            with self.subTest(ferry=ferry):
                before = copy.deepcopy(ferry)
                self.assertEqual(refusal_of(lambda: look_ferry(ferry)), (refusal, name))
                self.assertEqual(ferry, before)

    def test_every_other_refuses_likewise(self):
        for ferry, refusal, name in REFUSED:
            asked = [lambda: ferried(ferry, []), lambda: ferried(ferry, ["x", ("a", []), ("other", [])]),
                     lambda: joined(ferry, []), lambda: joined([], ferry), lambda: joined(ferry, ferry),
                     lambda: arrives(ferry, FORM, ("a", [])), lambda: arrives(ferry, FORM, ("other", []))]
            for place, each in enumerate(asked):
                with self.subTest(ferry=ferry, place=place):
                    before = copy.deepcopy(ferry)
                    self.assertEqual(refusal_of(each), (refusal, name))
                    self.assertEqual(ferry, before)

    def test_joined_refuses_the_first_one_first(self):
        for one_ferry, refusal, name in REFUSED:
            for other, *_ in REFUSED:
                told = refusal_of(lambda: joined(one_ferry, other))
                self.assertEqual(told, (refusal, name), (one_ferry, other))
            self.assertEqual(refusal_of(lambda: joined(one_ferry, [("q", [])])), (refusal, name))
            self.assertEqual(refusal_of(lambda: joined([("q", [])], one_ferry)), (refusal, name))

    def test_arrives_refuses_the_ferry_first_and_then_the_form(self):
        bad_forms = [(("a", [("p", NONE), ("a", NONE), ("p", NONE)]), Twice, "p"), (("q", [("a", NONE)]), NoName, "q"),
                     (("a", [("a", one("r"))]), NoName, "r")]
        for form, form_refusal, form_name in bad_forms:
            for ferry, refusal, name in REFUSED:
                self.assertEqual(refusal_of(lambda: arrives(ferry, form, ("a", []))), (refusal, name))
            # The form is looked at whatever the paper is ferried to.
            for ferry in [[], [("a", [])], [("a", ["x"])], [("a", ["x", "y"])], [("a", [("b", [])])]]:
                before = copy.deepcopy(form)
                self.assertEqual(refusal_of(lambda: arrives(ferry, form, ("a", []))), (form_refusal, form_name))
                self.assertEqual(form, before)

    def test_many_rules_and_large_rows(self):
        for count in [100, 120]:
            ferry = [(name, [(name, [star()])]) for name in names(count)]
            self.assertIsNone(look_ferry(ferry))
            self.assertEqual(refusal_of(lambda: look_ferry(ferry + ferry[50:51])), (Twice, ferry[50][0]))
            self.assertEqual(refusal_of(lambda: look_ferry(ferry + [("last", [star(), star()])])), (Stars, "last"))
        for deep in [98, 130]:
            self.assertIsNone(look_ferry([("a", [nested(deep, [star()])])]))
            self.assertEqual(refusal_of(lambda: look_ferry([("a", [nested(deep, [star()]), star()])])), (Stars, "a"))
            self.assertEqual(refusal_of(lambda: look_ferry([("a", [nested(deep, [star(), star()])])])), (Stars, "a"))
        wide = ["*"] * 1998
        self.assertIsNone(look_ferry([("a", wide + [star()])]))
        self.assertEqual(refusal_of(lambda: look_ferry([("a", [star()] + wide + [star()])])), (Stars, "a"))

    def test_arguments_by_name(self):
        self.assertIsNone(look_ferry(ferry=[]))
        self.assertEqual(ferried(ferry=[("a", ["x"])], row=[("a", [])]), ["x"])
        self.assertEqual(joined(one=[("a", [])], other=[("b", [])]), [("a", []), ("b", [])])
        self.assertIs(arrives(ferry=[], form=FORM, paper=("a", [])), True)


class Checks(unittest.TestCase):
    def check(self, ferry, row, wanted):
        given = (copy.deepcopy(ferry), copy.deepcopy(row))
        told = ferried(ferry, row)
        self.assertEqual(told, wanted)
        self.assertEqual((ferry, row), given)
        self.assertTrue(is_new(told, ferry, row))
        return told


class TestFerried(Checks):
    def test_by_hand(self):
        for ferry, row, wanted in BY_HAND:
            with self.subTest(ferry=ferry, row=row):
                self.check(ferry, row, wanted)
                self.assertEqual(followed(ferry, row), wanted)

    def test_kinds(self):
        told = ferried([("a", [("b", [star()])])], ["x", ("a", [("c", [])])])
        self.assertIs(type(told), list)
        self.assertEqual([type(part) for part in told], [str, tuple])
        self.assertIs(type(told[1][1]), list)
        self.assertIs(type(told[1][1][0]), tuple)

    def test_many_ferries(self):
        chance = random.Random(31)
        for _ in range(1500):
            ferry = random_ferry(chance, ["a", "b", "c", "d"])
            row = random_row(chance, ["a", "b", "c", "d", "e"], 14)
            with self.subTest(ferry=ferry, row=row):
                self.check(ferry, row, followed(ferry, row))

    def test_what_is_told_stays_and_is_the_askers_own(self):
        for ferry, row, wanted in BY_HAND:
            with self.subTest(ferry=ferry, row=row):
                given = (copy.deepcopy(ferry), copy.deepcopy(row))
                told, again = ferried(ferry, row), ferried(ferry, row)
                self.assertTrue(is_new([told, again], ferry, row))
                for each in lists_in(told):
                    each.append("more")
                self.assertEqual((ferry, row), given)
                self.assertEqual(again, wanted)
                self.assertEqual(ferried(ferry, row), wanted)
                for each in lists_in(ferry) + lists_in(row):
                    each.clear()
                self.assertEqual(again, wanted)

    def test_lists_that_stand_at_two_places_of_what_is_handed_in(self):
        shared = ("b", ["x"])
        twice = [shared, ("a", [shared, shared]), shared]
        told = self.check([("a", [shared, star(), shared])], twice, [("b", ["x"])] * 6)
        told[0][1].append("y")
        self.assertEqual(told[1:], [("b", ["x"])] * 5)
        row = ["x"]
        self.check([("b", row), ("c", row)], [("b", row), ("c", row), ("d", row)], ["x", "x", ("d", ["x"])])


class TestLargeRows(Checks):
    def test_tuples_a_hundred_deep(self):
        for deep in [100, 130]:
            row = [chain(deep)]
            self.check([], row, [chain(deep)])
            self.check([("a", [star()])], row, [])
            self.check([("a", [])], row, [])
            self.check([("a", ["x", star()])], row, ["x"] * deep)
            self.check([("a", ["(", star(), ")"])], row, ["("] * deep + [")"] * deep)
            renamed = self.check([("a", [("b", [star()])])], row, followed([("a", [("b", [star()])])], row))
            self.assertEqual(renamed[0][0], "b")
            texts = [nested(deep, ["in"])]
            self.check([("level", [star()]), ("inmost", [star()])], texts,
                       [f"ahead {level}" for level in range(1, deep)] + ["in"]
                       + [f"behind {level}" for level in range(deep - 1, 0, -1)])

    def test_a_rules_row_that_nests_deep(self):
        for deep in [99, 120]:
            self.check([("a", [nested(deep, [star()])])], [("a", ["x", "y"])], [nested(deep, ["x", "y"])])
            self.check([("a", [nested(deep, [])])], [chain(100)], [nested(deep, [])])

    def test_deep_rows_in_rules_that_leave_no_tuple(self):
        row = [chain(50)]
        for _ in range(50):
            row = [("b", row)]
        self.check([("b", [star()])], row, [chain(50)])

    def test_two_thousand_parts(self):
        for count in [2000, 2300]:
            self.check([("a", ["x"])], ["t"] * count, ["t"] * count)
            self.check([("a", ["x"])], [("a", [])] * count, ["x"] * count)
            self.check([("a", [("b", [star()])])], [("a", [])] * count, [("b", [])] * count)
            self.check([("a", [])], [("a", [])] * count, [])
            self.check([("a", [star()])], [("a", ["t"])] * (count // 2), ["t"] * (count // 2))
            self.check([("a", ["x"] * (count - 1) + [star()])], ["t", ("a", [])], ["t"] + ["x"] * (count - 1))
            numbered = [f"text {number}" for number in range(count)]
            self.check([("a", [star()])], [("a", numbered)], numbered)
            self.check([], [("a", numbered)], [("a", numbered)])

    def test_what_no_star_takes_up_may_be_of_any_size(self):
        # Within, each of 1,998 tuples would become 2,000 texts; the paper becomes one text.
        ferry = [("a", ["x"] * 2000), ("b", ["y"])]
        self.check(ferry, [("b", [("a", [])] * 1998)], ["y"])
        self.check(ferry, [("b", [("b", [("a", [])] * 1997)])], ["y"])

    def test_a_hundred_rules(self):
        given = names(100)
        ferry = [(name, [(later, [star()])]) for name, later in zip(given, given[1:] + given[:1])]
        row = [(name, [("other", [name])]) for name in given]
        self.check(ferry, row, [(later, [("other", [name])]) for name, later in zip(given, given[1:] + given[:1])])


class TestArrives(unittest.TestCase):
    FORM = ("b", [("b", maybe(one("c"))), ("c", many(one("#")))])

    def check(self, ferry, paper, wanted):
        given = copy.deepcopy((ferry, self.FORM, paper))
        self.assertIs(arrives(ferry, self.FORM, paper), wanted)
        self.assertEqual((ferry, self.FORM, paper), given)

    def test_a_row_of_none(self):
        self.check([("a", [])], ("a", []), False)
        self.check([("a", [star()])], ("a", []), False)
        self.check([("b", [])], ("b", []), False)

    def test_a_row_of_one(self):
        self.check([], ("b", []), True)
        self.check([], ("b", [("c", ["x"])]), True)
        self.check([("a", [("b", [star()])])], ("a", [("c", ["x", "y"])]), True)
        self.check([("a", [star()])], ("a", [("b", [])]), True)
        self.check([("a", [star()]), ("d", [])], ("a", [("d", []), ("a", [("b", []), ("d", ["x"])])]), True)

    def test_a_paper_that_is_not_of_the_form(self):
        self.check([], ("c", []), False)
        self.check([], ("a", []), False)
        self.check([], ("b", ["x"]), False)
        self.check([], ("b", [("c", []), ("c", [])]), False)
        self.check([("a", [("b", [star()])])], ("a", [("c", [("c", [])])]), False)
        self.check([("a", [("c", [star()])])], ("a", ["x"]), False)
        # Of the form as it is handed in, but not as it is ferried.
        self.check([("c", ["x"])], ("b", [("c", [])]), False)
        self.check([("b", [("c", [])])], ("b", []), False)

    def test_a_text_alone(self):
        for text in ["x", "b", ""]:
            self.check([("a", [text])], ("a", []), False)
            self.check([("a", [star()])], ("a", [text]), False)

    def test_a_row_of_two(self):
        self.check([("a", [("b", []), ("b", [])])], ("a", []), False)
        self.check([("a", [("b", []), "x"])], ("a", []), False)
        self.check([("a", ["x", ("b", [])])], ("a", []), False)
        self.check([("a", [star()])], ("a", [("b", []), ("b", [("c", [])])]), False)
        self.check([("a", ["x", "y"])], ("a", []), False)

    def test_large_papers(self):
        self.check([("a", [star()])], ("a", [("b", [("c", ["x"] * 1997)])]), True)
        self.check([("a", [star()])], ("a", [("b", [("c", ["x"] * 1996 + [("b", [])])])]), False)
        self.check([("a", [star()]), ("d", [("b", [])])], ("a", [chain(98)]), False)
        paper = ("d", [])
        for _ in range(99):
            paper = ("a", [paper])
        self.check([("a", [star()]), ("d", [("b", [])])], paper, True)


if __name__ == "__main__":
    unittest.main()
