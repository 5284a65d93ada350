import copy
import random
import time
import unittest

from formferry.errors import NoName, Stars, Twice
from formferry.judge import lost
from formferry.papers import size
from tests.samples import A, B, C, D, NONE, TEXT, Z, Cutter, comes_in, depth_of, either, first_lost, is_new, lists_in
from tests.samples import many, maybe, names, one, random_ferry, random_form, random_row, refusal_of, row, some, star
from tests.samples import put_star, tuples_in, wanted_faults

E, P, Q = one("e"), one("p"), one("q")


def stays(name):
    return (name, [(name, [star()])])


def renames(name, other):
    return (name, [(other, [star()])])


def opens(name):
    return (name, [star()])


def drops(name):
    return (name, [])


ALL_SORTS = (["row", "any"], ["maybe", "many", "some"])
WIDE_SORTS = (["any"], ["many"])
ALL_TEXTS = many(TEXT)
LIST = ("a", [("a", many(B)), ("b", ALL_TEXTS)])
TREE = ("a", [("a", many(either(A, B, TEXT))), ("b", NONE)])
PLAIN = ("a", [("a", NONE)])

# A form, a ferry, a second form and the least size of a paper that does not arrive, None where all do.
BY_HAND = [
    # No ferry at all: each paper is held against the second form as it is.
    (PLAIN, [], PLAIN, None),
    (LIST, [], LIST, None),
    (TREE, [], TREE, None),
    (PLAIN, [], ("b", [("a", NONE), ("b", NONE)]), 1),
    (PLAIN, [], ("b", [("b", NONE)]), 1),
    (LIST, [], ("a", [("a", some(B)), ("b", ALL_TEXTS)]), 1),
    (LIST, [], ("a", [("a", maybe(B)), ("b", ALL_TEXTS)]), 3),
    (LIST, [], ("a", [("a", many(B)), ("b", NONE)]), 3),
    (LIST, [], ("a", [("a", many(B)), ("b", maybe(TEXT))]), 4),
    (LIST, [], ("a", [("a", many(B)), ("b", some(TEXT))]), 2),
    (TREE, [], ("a", [("a", many(either(A, TEXT))), ("b", NONE)]), 2),
    (TREE, [], ("a", [("a", row(many(either(A, B)), ALL_TEXTS)), ("b", NONE)]), 3),
    # No paper at all in the first form, so none is lost; or none in the second.
    (("a", [("a", A)]), [], ("b", [("b", NONE)]), None),
    (("a", [("a", row(B, A)), ("b", NONE)]), [drops("a")], ("b", [("b", NONE)]), None),
    (PLAIN, [], ("a", [("a", A)]), 1),
    (("a", [("a", A)]), [], ("a", [("a", A)]), None),
    # The row at the root: none, a text, a text and a part, several parts, one of another name, one that is right.
    (PLAIN, [drops("a")], PLAIN, 1),
    (PLAIN, [("a", [""])], PLAIN, 1),
    (PLAIN, [("a", ["a"])], PLAIN, 1),
    (PLAIN, [("a", [("a", []), "x"])], PLAIN, 1),
    (PLAIN, [("a", ["x", ("a", [])])], PLAIN, 1),
    (PLAIN, [("a", [("a", []), ("a", [])])], PLAIN, 1),
    (PLAIN, [("a", [("b", [])])], PLAIN, 1),
    (PLAIN, [("a", [("a", [])])], PLAIN, None),
    (PLAIN, [("a", [("b", [])])], ("b", [("b", NONE)]), None),
    # A root that is opened: its parts must come to just one.
    (("a", [("a", B), ("b", NONE)]), [opens("a")], ("b", [("b", NONE)]), None),
    (("a", [("a", maybe(B)), ("b", NONE)]), [opens("a")], ("b", [("b", NONE)]), 1),
    (("a", [("a", some(B)), ("b", NONE)]), [opens("a")], ("b", [("b", NONE)]), 3),
    (("a", [("a", either(B, C)), ("b", NONE), ("c", NONE)]), [opens("a")], ("b", [("b", NONE), ("c", NONE)]), 2),
    (("a", [("a", either(B, TEXT)), ("b", NONE)]), [opens("a")], ("b", [("b", NONE)]), 2),
    (("a", [("a", row(B, many(C))), ("b", NONE), ("c", NONE)]), [opens("a"), drops("c")], ("b", [("b", NONE)]), None),
    (("a", [("a", row(many(C), B)), ("b", NONE), ("c", many(TEXT))]), [opens("a"), opens("c")],
     ("b", [("b", NONE)]), 4),
    (("a", [("a", maybe(A))]), [("a", [star()])], PLAIN, 1),
    (("a", [("a", maybe(A))]), [("a", ["x", star()])], PLAIN, 1),
    # Rows without a star: what is within is of no matter, whatever it is.
    (TREE, [("a", [("a", [])])], PLAIN, None),
    (TREE, [("a", [("a", ["x"])])], PLAIN, 1),
    (("a", [("a", row(B, TEXT)), ("b", maybe(C)), ("c", NONE)]), [("b", ["x"])], ("a", [("a", TEXT)]), 3),
    (("a", [("a", row(B, TEXT)), ("b", maybe(C)), ("c", NONE)]), [("b", ["x"])], ("a", [("a", ALL_TEXTS)]), None),
    # Dropped, so that a fault within is gone; opened, so that it is not.
    (("a", [("a", many(B)), ("b", maybe(C)), ("c", NONE)]), [drops("b")], PLAIN, None),
    (("a", [("a", many(B)), ("b", maybe(C)), ("c", NONE)]), [opens("b")], PLAIN, 3),
    (("a", [("a", many(B)), ("b", maybe(C)), ("c", NONE)]), [opens("b")], ("a", [("a", maybe(C)), ("c", NONE)]), 5),
    (("a", [("a", many(B)), ("b", maybe(C)), ("c", NONE)]), [opens("b")], ("a", [("a", many(C)), ("c", NONE)]), None),
    # Names exchanged.
    (("a", [("a", maybe(B)), ("b", maybe(A))]), [renames("a", "b"), renames("b", "a")],
     ("b", [("a", maybe(B)), ("b", maybe(A))]), None),
    (("a", [("a", maybe(B)), ("b", maybe(A))]), [renames("a", "b"), renames("b", "a")],
     ("b", [("a", NONE), ("b", maybe(A))]), 3),
    (("a", [("a", maybe(B)), ("b", maybe(A))]), [renames("a", "b"), renames("b", "a")],
     ("a", [("a", maybe(B)), ("b", maybe(A))]), 1),
    # Wrapped, with written parts and texts ahead of the star and behind it.
    (("a", [("a", many(B)), ("b", NONE)]), [("a", [("p", [("q", []), star(), "x"])])],
     ("p", [("p", row(Q, many(B), TEXT)), ("q", NONE), ("b", NONE)]), None),
    (("a", [("a", many(B)), ("b", NONE)]), [("a", [("p", [("q", []), star(), "x"])])],
     ("p", [("p", row(Q, B, TEXT)), ("q", NONE), ("b", NONE)]), 1),
    (("a", [("a", many(B)), ("b", NONE)]), [("a", [("p", [("q", []), star(), "x"])])],
     ("p", [("p", row(Q, some(maybe(B)), TEXT)), ("q", NONE), ("b", TEXT)]), 2),
    (("a", [("a", many(B)), ("b", NONE)]), [("a", [("p", [("q", []), star()])])],
     ("p", [("p", row(Q, maybe(B))), ("q", NONE), ("b", NONE)]), 3),
    (("a", [("a", many(B)), ("b", NONE)]), [("a", [("p", [star(), ("q", [])])])],
     ("p", [("p", row(maybe(B), Q)), ("q", NONE), ("b", NONE)]), 3),
    (("a", [("a", many(TEXT))]), [("a", [("p", ["x", star()])])], ("p", [("p", maybe(TEXT))]), 2),
    (("a", [("a", many(TEXT))]), [("a", [("p", ["x", star()])])], ("p", [("p", some(TEXT))]), None),
    (("a", [("a", many(B)), ("b", NONE)]), [("b", ["x", star(), ("b", [])])],
     ("a", [("a", many(row(TEXT, B))), ("b", NONE)]), None),
    (("a", [("a", many(B)), ("b", NONE)]), [("b", [("b", []), star(), "x"])],
     ("a", [("a", many(row(TEXT, B))), ("b", NONE)]), 2),
    (("a", [("a", many(B)), ("b", ALL_TEXTS)]), [("b", [("b", []), star(), ("c", [])])],
     ("a", [("a", many(row(B, maybe(TEXT), C))), ("b", NONE), ("c", NONE)]), 4),
    # A written part holds what is wrong, beside the star or far from it.
    (("a", [("a", many(B)), ("b", NONE)]), [("a", [("a", [("c", ["x"]), star()])])],
     ("a", [("a", row(C, many(B))), ("b", NONE), ("c", NONE)]), 1),
    (("a", [("a", many(B)), ("b", NONE)]), [("b", [("b", [("c", [("d", ["x"])])])])],
     ("a", [("a", many(B)), ("b", C), ("c", D), ("d", NONE)]), 2),
    (("a", [("a", many(B)), ("b", NONE)]), [("b", [("b", [("c", [("d", [])])])])],
     ("a", [("a", many(B)), ("b", C), ("c", D), ("d", NONE)]), None),
    # Doubled by written parts.
    (("a", [("a", many(B)), ("b", NONE)]), [("b", [("b", []), ("b", [])])], ("a", [("a", maybe(B)), ("b", NONE)]), 2),
    (("a", [("a", many(B)), ("b", NONE)]), [("b", [("b", []), ("b", [])])], ("a", [("a", many(B)), ("b", NONE)]), None),
    (("a", [("a", many(B)), ("b", NONE)]), [("b", [("b", []), ("c", [])])],
     ("a", [("a", many(row(B, C))), ("b", NONE), ("c", NONE)]), None),
    (("a", [("a", many(B)), ("b", NONE)]), [("b", [("b", []), ("c", [])])],
     ("a", [("a", maybe(row(B, C))), ("b", NONE), ("c", NONE)]), 3),
    # A name that arrives without a rule in the second form; the second form has rules that nothing comes to.
    (LIST, [], ("a", [("a", NONE)]), 2),
    (LIST, [renames("b", "c")], LIST, 2),
    (LIST, [renames("a", "c")], LIST, 1),
    (("a", [("a", many(B)), ("b", NONE)]), [("b", [("a", [("z", [])])])], ("a", [("a", many(A))]), 2),
    (PLAIN, [], ("a", [("a", NONE), ("b", C), ("c", B)]), None),
    # Names of the first form that cannot stand, and such that nothing leads to.
    (("a", [("a", either(Z, TEXT)), ("z", Z)]), [], ("a", [("a", TEXT)]), None),
    (("a", [("a", many(either(row(B, Z), C))), ("z", Z), ("b", NONE), ("c", NONE)]), [],
     ("a", [("a", many(C)), ("c", NONE)]), None),
    (("a", [("a", maybe(row(B, Z, C))), ("z", row(TEXT, Z)), ("b", NONE), ("c", NONE)]), [drops("z")], PLAIN, None),
    (("a", [("a", TEXT), ("b", many(A))]), [drops("b")], ("a", [("a", TEXT)]), None),
    (("a", [("a", TEXT), ("b", many(C)), ("c", NONE)]), [("c", ["x"])], ("a", [("a", TEXT)]), None),
    # Rules of the ferry for names that the first form does not have.
    (PLAIN, [("b", ["x"]), ("z", [("y", [star()])])], PLAIN, None),
    # The fault lies deep.
    (("a", [("a", maybe(B)), ("b", maybe(C)), ("c", maybe(D)), ("d", maybe(A))]), [],
     ("a", [("a", maybe(B)), ("b", maybe(C)), ("c", maybe(D)), ("d", NONE)]), 5),
    (("a", [("a", B), ("b", C), ("c", row(D, TEXT)), ("d", maybe(E)), ("e", ALL_TEXTS)]), [],
     ("a", [("a", B), ("b", C), ("c", row(D, TEXT)), ("d", maybe(E)), ("e", maybe(TEXT))]), 8),
    (("a", [("a", either(TEXT, row(A, B))), ("b", either(C, D)), ("c", NONE), ("d", TEXT)]), [],
     ("a", [("a", either(TEXT, row(A, B))), ("b", C), ("c", NONE)]), 6),
    # Only where several stand beside one another, from several parts, and where those between vanish.
    (("a", [("a", many(B)), ("b", either(C, D)), ("c", NONE), ("d", NONE)]), [opens("b")],
     ("a", [("a", row(many(C), many(D))), ("c", NONE), ("d", NONE)]), 5),
    (("a", [("a", row(B, many(E), C)), ("b", either(TEXT, D)), ("c", either(P, Q)), ("d", NONE), ("e", some(TEXT)),
            ("p", NONE), ("q", NONE)]), [opens("b"), opens("c"), drops("e")],
     ("a", [("a", either(row(D, P), row(TEXT, maybe(Q)))), ("d", NONE), ("p", NONE), ("q", NONE)]), 5),
    (("a", [("a", row(B, some(E), C)), ("b", either(TEXT, D)), ("c", NONE), ("d", NONE), ("e", TEXT)]),
     [opens("b"), drops("e")], ("a", [("a", row(TEXT, C)), ("c", NONE), ("d", NONE)]), 6),
    (("a", [("a", row(B, E, C)), ("b", maybe(TEXT)), ("c", maybe(TEXT)), ("e", maybe(TEXT))]),
     [opens("b"), opens("c"), opens("e")], ("a", [("a", maybe(TEXT))]), 6),
    (("a", [("a", row(B, E, C)), ("b", maybe(TEXT)), ("c", maybe(TEXT)), ("e", maybe(TEXT))]),
     [opens("b"), opens("c"), opens("e")], ("a", [("a", some(TEXT))]), 4),
    (("a", [("a", row(B, E, C)), ("b", maybe(TEXT)), ("c", maybe(TEXT)), ("e", maybe(TEXT))]),
     [opens("b"), opens("c"), opens("e")], ("a", [("a", ALL_TEXTS)]), None),
    # Beside one another from two parts, or cheaper from one, which stands behind them or ahead.
    (("a", [("a", either(row(B, C), D)), ("b", NONE), ("c", NONE), ("d", NONE)]),
     [("b", [("p", [])]), ("c", [("q", [])]), ("d", [("p", []), ("q", [])])],
     ("a", [("a", row(maybe(Q), maybe(P))), ("p", NONE), ("q", NONE)]), 2),
    (("a", [("a", either(D, row(B, C))), ("b", NONE), ("c", NONE), ("d", NONE)]),
     [("b", [("p", [])]), ("c", [("q", [])]), ("d", [("p", []), ("q", [])])],
     ("a", [("a", row(maybe(Q), maybe(P))), ("p", NONE), ("q", NONE)]), 2),
    (("a", [("a", either(D, row(B, C))), ("b", NONE), ("c", NONE), ("d", row(TEXT, E)), ("e", NONE)]),
     [("b", [("p", [])]), ("c", [("q", [])]), ("d", [("p", []), ("q", [])])],
     ("a", [("a", row(maybe(Q), maybe(P))), ("p", NONE), ("q", NONE)]), 3),
    # What stands ahead of the fault and behind it is the cheapest: a text, where a tuple would do too.
    (("a", [("a", row(either(B, TEXT), C)), ("b", TEXT), ("c", maybe(TEXT))]), [],
     ("a", [("a", row(either(B, TEXT), C)), ("b", TEXT), ("c", NONE)]), 4),
    (("a", [("a", row(C, either(B, TEXT))), ("b", TEXT), ("c", maybe(TEXT))]), [],
     ("a", [("a", row(C, either(B, TEXT))), ("b", TEXT), ("c", NONE)]), 4),
    (("a", [("a", row(either(TEXT, B), C)), ("b", NONE), ("c", maybe(D)), ("d", NONE)]), [],
     ("a", [("a", row(either(TEXT, B), C)), ("b", NONE), ("c", NONE)]), 4),
    # Each is right by itself and in pairs of two kinds, but b may not follow c.
    (("a", [("a", row(maybe(C), maybe(B))), ("b", NONE), ("c", NONE)]), [],
     ("a", [("a", either(B, maybe(C))), ("b", NONE), ("c", NONE)]), 3),
    # Opened within opened.
    (("a", [("a", B), ("b", either(B, C)), ("c", NONE)]), [opens("b")], ("a", [("a", C), ("c", NONE)]), None),
    (("a", [("a", B), ("b", either(B, C)), ("c", NONE)]), [("b", [star(), "x"])],
     ("a", [("a", row(C, maybe(TEXT))), ("c", NONE)]), 4),
    (("a", [("a", B), ("b", either(B, C)), ("c", NONE)]), [("b", ["x", star()])],
     ("a", [("a", row(maybe(TEXT), C)), ("c", NONE)]), 4),
    (("a", [("a", B), ("b", either(B, C)), ("c", NONE)]), [("b", ["x", star(), ("d", [])])],
     ("a", [("a", row(some(TEXT), C, some(D))), ("c", NONE), ("d", NONE)]), None),
    # The dearer of two lies nearer: a paper of least size, not of least depth.
    (("a", [("a", either(row(B, E), C)), ("b", row(D, TEXT)), ("c", D), ("d", NONE), ("e", TEXT)]), [],
     ("a", [("a", C), ("c", D), ("d", TEXT)]), 3),
    (("a", [("a", either(row(B, E), C)), ("b", row(D, TEXT)), ("c", either(A, D)), ("d", NONE), ("e", TEXT)]), [],
     ("a", [("a", C), ("c", D), ("d", NONE)]), 5),
    (("a", [("a", either(row(B, E), C)), ("b", TEXT), ("c", D), ("d", either(NONE, A)), ("e", maybe(TEXT))]), [],
     ("a", [("a", C), ("c", D), ("d", NONE)]), 4),
]

# In these the cheapest ways to several pairs are as cheap as one another, round in circles.
AS_CHEAP = (
    ("a", [("a", either(many(C), B)),
           ("b", either(many(C), row(NONE, row(ALL_TEXTS, many(B))))),
           ("c", maybe(either(B, either(A, maybe(either(TEXT, C))))))]),
    [opens("b"), opens("c"), stays("a")],
    ("a", [("a", maybe(NONE)), ("b", many(either(A, B, C, TEXT, NONE))), ("c", many(either(A, B, C, TEXT, NONE)))]),
)


def random_other(chance, known):
    """A second form: mostly one that lets nearly all words through."""
    root, rules = random_form(chance, known, chance.choice([0.5, 0.9]))
    if chance.random() < 0.7:
        narrow = chance.choice(rules)
        rules = []
        for name in known:
            signs = [sign for sign in known + ["#"] if chance.random() < 0.9]
            rules.append((name, many(either(NONE, *[one(sign) for sign in signs])) if signs else NONE))
        rules = [narrow if rule[0] == narrow[0] and chance.random() < 0.7 else rule for rule in rules]
    return (root, rules)


def random_crossing(chance, root, other_root, known):
    """A ferry: mostly one that takes the root to the other root."""
    ferry = random_ferry(chance, known)
    if chance.random() < 0.7:
        ferry = [rule for rule in ferry if rule[0] != root] + [renames(root, other_root)]
    return ferry


def deep_pattern(chance, signs, joins, marks):
    """A pattern of 60 tuples, 30 deep, of eleven signs."""
    chance.shuffle(signs)
    pattern = one(signs[0])
    for sign in signs[1:]:
        inner = [pattern, one(sign), NONE, NONE]
        chance.shuffle(inner)
        pattern = (chance.choice(marks), (chance.choice(joins), inner))
    while depth_of(pattern) < 30:
        pattern = (chance.choice(marks), pattern)
    return pattern


def opening_row(chance, known):
    written = random_row(chance, known, chance.choice([0, 1, 2])) if chance.random() < 0.7 else []
    if chance.random() < 0.3:
        put_star(chance, written)
    else:
        written.insert(chance.randint(0, len(written)), star())
    return written


class Checks(unittest.TestCase):
    def check(self, form, ferry, other, wanted):
        """Of what is told the size, that it is of the first form, is lost, is new, and that all given stays."""
        given = copy.deepcopy((form, ferry, other))
        paper = lost(form, ferry, other)
        self.assertEqual((form, ferry, other), given)
        if wanted is None:
            self.assertIsNone(paper)
        else:
            self.assertIsInstance(paper, tuple)
            self.assertEqual(size([paper]), wanted)
            self.check_lost(form, ferry, other, paper)
        return paper

    def check_lost(self, form, ferry, other, paper):
        cutter = Cutter()
        self.assertEqual(wanted_faults(form, paper, cutter), [])
        self.assertFalse(comes_in(ferry, other, paper, cutter))
        self.assertTrue(is_new(paper, form, ferry, other))


class TestLost(Checks):
    def test_by_hand(self):
        for form, ferry, other, wanted in BY_HAND + [AS_CHEAP + (3,)]:
            with self.subTest(form=form, ferry=ferry, other=other):
                found, tried = first_lost(form, ferry, other, 8)
                self.assertEqual(found, wanted)
                self.check(form, ferry, other, wanted)

    def test_many_small_forms(self):
        chance = random.Random(16)
        sizes = {}
        for _ in range(1500):
            known = names(chance.choice([1, 2, 2, 3]))
            form = random_form(chance, known, chance.choice([0.1, 0.3, 0.6]))
            other = random_other(chance, known + chance.choice([[], ["y"]]))
            ferry = random_crossing(chance, form[0], other[0], known)
            found, tried = first_lost(form, ferry, other, 7, 300)
            with self.subTest(form=form, ferry=ferry, other=other):
                paper = lost(form, ferry, other)
                if found is None and paper is not None:
                    self.assertGreater(size([paper]), tried)
                    self.check_lost(form, ferry, other, paper)
                else:
                    self.check(form, ferry, other, found)
            sizes[found] = sizes.get(found, 0) + 1
        # Whether the forms are such that something is found out: some lost at each size, and many not.
        self.assertGreater(min(sizes.get(each, 0) for each in [1, 2, 3, 4, 5]), 4)
        self.assertGreater(sizes[None], 300)

    def test_lists_that_stand_at_two_places_of_what_is_handed_in(self):
        inner, written = [TEXT, B], [star(), ("b", [])]
        form = ("a", [("a", ("row", inner)), ("b", many(either(C, TEXT))), ("c", ("any", [C, ("any", inner)]))])
        ferry = [("a", [("a", written)]), ("b", [("c", []), ("b", written)]), ("c", written)]
        other = ("a", [("a", ("row", [many(either(TEXT, C)), ("many", B)])), ("b", many(either(B, C))), ("c", NONE)])
        found, _ = first_lost(form, ferry, other, 8)
        self.check(form, ferry, other, found)
        self.assertIsNotNone(found)

    def test_arguments_by_name(self):
        self.assertEqual(lost(form=PLAIN, ferry=[("a", [])], other=PLAIN), ("a", []))
        self.assertIsNone(lost(form=PLAIN, ferry=[], other=PLAIN))


class TestWhatIsTold(Checks):
    def lost_ones(self):
        return [each[:3] for each in BY_HAND if each[3] is not None] + [AS_CHEAP]

    def test_the_same_paper_each_time(self):
        for form, ferry, other in self.lost_ones():
            with self.subTest(form=form, ferry=ferry, other=other):
                first = lost(form, ferry, other)
                kept = copy.deepcopy(first)
                for each in lists_in(first):
                    each.append(("changed", []))
                for each in lists_in(lost(form, ferry, other)):
                    each.clear()
                self.assertEqual(lost(form, ferry, other), kept)
                self.assertEqual(lost(*copy.deepcopy((form, ferry, other))), kept)

    def test_what_was_handed_in_may_be_changed_afterwards(self):
        for form, ferry, other in self.lost_ones():
            given = copy.deepcopy((form, ferry, other))
            paper = lost(*given)
            kept = copy.deepcopy(paper)
            for each in lists_in(list(given)):
                each.clear()
            self.assertEqual(paper, kept)


class TestRefusals(unittest.TestCase):
    TWICE = ("a", [("a", NONE), ("b", row(TEXT, TEXT))])
    NO_ROOT = ("z", [("a", NONE)])
    NO_NAME = ("a", [("a", one("y"))])
    TWO_RULES = [("c", []), ("c", [])]
    TWO_STARS = [("d", [star(), star()])]

    def test_the_first_form_then_the_ferry_then_the_second_form(self):
        bad_forms = [(self.TWICE, Twice, "b"), (self.NO_ROOT, NoName, "z"), (self.NO_NAME, NoName, "y")]
        bad_ferries = [(self.TWO_RULES, Twice, "c"), (self.TWO_STARS, Stars, "d")]
        for form, refusal, name in bad_forms:
            for ferry in [[], self.TWO_RULES, self.TWO_STARS]:
                for other in [PLAIN, self.TWICE, self.NO_ROOT, self.NO_NAME, ("x", [])]:
                    self.assertEqual(refusal_of(lambda: lost(form, ferry, other)), (refusal, name))
            self.assertEqual(refusal_of(lambda: lost(PLAIN, [], form)), (refusal, name))
        for ferry, refusal, name in bad_ferries:
            for other in [PLAIN, self.TWICE, self.NO_ROOT, self.NO_NAME]:
                self.assertEqual(refusal_of(lambda: lost(PLAIN, ferry, other)), (refusal, name))

    def test_also_where_nothing_could_be_lost_or_anything_would_be(self):
        for form in [("a", [("a", A)]), PLAIN, TREE]:
            self.assertEqual(refusal_of(lambda: lost(form, [drops("a")], self.NO_NAME)), (NoName, "y"))
            self.assertEqual(refusal_of(lambda: lost(form, self.TWO_STARS, PLAIN)), (Stars, "d"))

    def test_what_is_refused_stays(self):
        given = [(self.TWICE, [], PLAIN), (PLAIN, self.TWO_STARS, PLAIN), (PLAIN, [], self.NO_NAME)]
        kept = copy.deepcopy(given)
        for each in given:
            self.assertIsNotNone(refusal_of(lambda: lost(*each)))
        self.assertEqual(given, kept)


class TestLargeForms(Checks):
    def setUp(self):
        self.begun = time.perf_counter()

    def tearDown(self):
        self.assertLess(time.perf_counter() - self.begun, 30)

    def test_least_papers_of_more_than_two_thousand_parts(self):
        """Each name holds a text and all names behind it; the last one a text, or all anew."""
        known = names(10)
        rules = [(name, row(TEXT, *[one(each) for each in known[place + 1:]])) for place, name in enumerate(known[:9])]
        wide = rules + [("j", either(TEXT, A))]
        wider = rules + [("j", either(TEXT, row(A, B, C)))]
        narrow = rules + [("j", TEXT)]
        self.check(("a", narrow), [], ("a", narrow), None)
        self.check(("a", wide), [], ("a", narrow), 2047)
        self.check(("a", wider), [], ("a", narrow), 1023 + 1024 + 512 + 256)
        self.check(("a", wider), [], ("a", wide), 1023 + 1024 + 512 + 256)
        self.check(("a", wide), [drops("j")], ("a", [(name, row(TEXT, *[one(each) for each in known[place + 1:9]]))
                                                     for place, name in enumerate(known[:8])] + [("i", TEXT)]), None)

    def test_a_fault_that_lies_deep(self):
        known = names(10)
        rules = [(name, one(behind)) for name, behind in zip(known, known[1:])]
        form = ("a", rules + [("j", maybe(A))])
        self.check(form, [], form, None)
        paper = self.check(form, [], ("a", rules + [("j", NONE)]), 20)
        deep = 0
        while paper[1]:
            deep, paper = deep + 1, paper[1][0]
        self.assertEqual((deep, paper[0]), (19, "j"))

    def test_rows_that_nest_ten_deep(self):
        known = names(10)
        nest = [star()]
        for name in reversed(known):
            nest = ["x", (name, nest)]
        chain = [(name, row(TEXT, one(behind))) for name, behind in zip(known, known[1:])]
        form = ("p", [("p", many(either(Q, TEXT))), ("q", NONE)])
        for last, wanted in [(many(either(Q, TEXT)), None), (maybe(Q), 2), (row(many(Q), maybe(TEXT)), 3), (Q, 1)]:
            self.check(form, [("p", nest[1:])], ("a", chain + [("j", last), ("q", NONE)]), wanted)
        self.check(form, [("p", nest)], ("a", chain + [("j", many(either(Q, TEXT))), ("q", NONE)]), 1)
        self.check(form, [("p", nest[1:]), ("q", [("q", nest)])],
                   ("a", chain + [("j", many(either(Q, TEXT))), ("q", row(TEXT, A))]), None)
        self.check(form, [("p", nest[1:]), ("q", [("q", nest)])],
                   ("a", chain + [("j", many(either(Q, TEXT))), ("q", A)]), 2)

    def test_deep_patterns_of_sixty_tuples(self):
        chance = random.Random(60)
        known = names(10)
        told = {}
        for _ in range(60):
            narrow = chance.sample(known, chance.choice([0, 1, 2]))
            form = ("a", [(name, deep_pattern(chance, known + ["#"], *ALL_SORTS)) for name in known])
            other = ("a", [(name, deep_pattern(chance, known + ["#"], *(ALL_SORTS if name in narrow else WIDE_SORTS)))
                           for name in known])
            for each in form[1] + other[1]:
                self.assertEqual((depth_of(each[1]), tuples_in(each[1])), (30, 60))
            ferry = [("a", [("a", [star()])])] + [(name, opening_row(chance, known)) for name in known[1:]]
            paper = lost(form, ferry, other)
            if paper is not None:
                self.check_lost(form, ferry, other, paper)
            told[paper is None] = told.get(paper is None, 0) + 1
        self.assertEqual(len(told), 2, told)

    def test_all_names_in_all_patterns(self):
        known = names(10)
        every = many(either(*[one(sign) for sign in known + ["#"]]))
        form = ("a", [(name, every) for name in known])
        ferry = [("a", [("a", [star()])])] + [(name, [(known[place - 1], []), star(), "x"])
                                              for place, name in enumerate(known) if place]
        self.check(form, ferry, form, None)
        for left_out in known + ["#"]:
            kept = [one(sign) for sign in known + ["#"] if sign != left_out]
            other = ("a", [("a", many(either(*kept)))] + form[1][1:])
            # Nothing becomes a part called j.
            self.check(form, ferry, other, None if left_out == "j" else 2)

    def test_long_rows_and_many_rules(self):
        rows = [("b", [("b", [])] * 1000 + [star()] + ["x"] * 999), ("c", [("c", [("b", []), "x"] * 900)])]
        ferry = rows + [(name, [star()]) for name in names(110)[12:]]
        form = ("a", [("a", row(B, C)), ("b", maybe(TEXT)), ("c", NONE)])
        held = [("b", NONE), ("c", many(row(B, TEXT)))]
        bent = [("b", NONE), ("c", many(row(TEXT, B)))]
        least = ("a", [("b", []), ("c", [])])
        self.assertIsNone(lost(form, ferry, ("a", [("a", row(many(B), ALL_TEXTS, C))] + held)))
        self.assertEqual(lost(form, ferry, ("a", [("a", row(many(B), maybe(TEXT), C))] + held)), least)
        self.assertEqual(lost(form, ferry, ("a", [("a", row(many(B), ALL_TEXTS, C))] + bent)), least)


if __name__ == "__main__":
    unittest.main()
