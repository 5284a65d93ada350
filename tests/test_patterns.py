import copy
import unittest

from formferry.patterns import bare, firsts, lasts, nexts, signs
from tests.samples import A, B, C, D, NONE, TEXT, Z, either, many, maybe, one, row, some
from tests.samples import depth_of, many_patterns, names, tuples_in, words_over, Cutter

# Each pattern with its bare, firsts, lasts and nexts, worked out by hand; the nexts list the signs, too.
ALONE = [
    (NONE, True, [], [], {}),
    (A, False, ["a"], ["a"], {"a": []}),
    (TEXT, False, ["#"], ["#"], {"#": []}),
    (row(A, B), False, ["a"], ["b"], {"a": ["b"], "b": []}),
    (row(B, TEXT, A), False, ["b"], ["a"], {"b": ["#"], "#": ["a"], "a": []}),
    (either(A, B), False, ["a", "b"], ["a", "b"], {"a": [], "b": []}),
    (either(C, A, B), False, ["c", "a", "b"], ["c", "a", "b"], {"c": [], "a": [], "b": []}),
    (maybe(A), True, ["a"], ["a"], {"a": []}),
    (many(A), True, ["a"], ["a"], {"a": ["a"]}),
    (some(A), False, ["a"], ["a"], {"a": ["a"]}),
]

WITHIN_ROW = [
    (row(NONE, Z), False, ["z"], ["z"], {"z": []}),
    (row(Z, NONE), False, ["z"], ["z"], {"z": []}),
    (row(A, NONE, Z), False, ["a"], ["z"], {"a": ["z"], "z": []}),
    (row(row(A, B), Z), False, ["a"], ["z"], {"a": ["b"], "b": ["z"], "z": []}),
    (row(Z, row(A, B)), False, ["z"], ["b"], {"z": ["a"], "a": ["b"], "b": []}),
    (row(either(A, B), Z), False, ["a", "b"], ["z"], {"a": ["z"], "b": ["z"], "z": []}),
    (row(Z, either(A, B)), False, ["z"], ["a", "b"], {"z": ["a", "b"], "a": [], "b": []}),
    (row(either(A, NONE), Z), False, ["a", "z"], ["z"], {"a": ["z"], "z": []}),
    (row(maybe(A), Z), False, ["a", "z"], ["z"], {"a": ["z"], "z": []}),
    (row(Z, maybe(A)), False, ["z"], ["z", "a"], {"z": ["a"], "a": []}),
    (row(many(A), Z), False, ["a", "z"], ["z"], {"a": ["a", "z"], "z": []}),
    (row(Z, many(A)), False, ["z"], ["z", "a"], {"z": ["a"], "a": ["a"]}),
    (row(some(A), Z), False, ["a"], ["z"], {"a": ["a", "z"], "z": []}),
    (row(Z, some(A)), False, ["z"], ["a"], {"z": ["a"], "a": ["a"]}),
]

WITHIN_ANY = [
    (either(NONE, Z), True, ["z"], ["z"], {"z": []}),
    (either(Z, NONE), True, ["z"], ["z"], {"z": []}),
    (either(row(A, B), Z), False, ["a", "z"], ["b", "z"], {"a": ["b"], "b": [], "z": []}),
    (either(Z, row(A, B)), False, ["z", "a"], ["z", "b"], {"z": [], "a": ["b"], "b": []}),
    (either(either(A, B), Z), False, ["a", "b", "z"], ["a", "b", "z"], {"a": [], "b": [], "z": []}),
    (either(maybe(A), Z), True, ["a", "z"], ["a", "z"], {"a": [], "z": []}),
    (either(many(A), Z), True, ["a", "z"], ["a", "z"], {"a": ["a"], "z": []}),
    (either(Z, many(A)), True, ["z", "a"], ["z", "a"], {"z": [], "a": ["a"]}),
    (either(some(A), Z), False, ["a", "z"], ["a", "z"], {"a": ["a"], "z": []}),
]

WITHIN_MAYBE = [
    (maybe(NONE), True, [], [], {}),
    (maybe(row(A, B)), True, ["a"], ["b"], {"a": ["b"], "b": []}),
    (maybe(either(A, B)), True, ["a", "b"], ["a", "b"], {"a": [], "b": []}),
    (maybe(maybe(A)), True, ["a"], ["a"], {"a": []}),
    (maybe(many(A)), True, ["a"], ["a"], {"a": ["a"]}),
    (maybe(some(A)), True, ["a"], ["a"], {"a": ["a"]}),
]

WITHIN_MANY = [
    (many(NONE), True, [], [], {}),
    (many(row(A, B)), True, ["a"], ["b"], {"a": ["b"], "b": ["a"]}),
    (many(either(A, B)), True, ["a", "b"], ["a", "b"], {"a": ["a", "b"], "b": ["a", "b"]}),
    (many(either(B, NONE)), True, ["b"], ["b"], {"b": ["b"]}),
    (many(maybe(A)), True, ["a"], ["a"], {"a": ["a"]}),
    (many(many(A)), True, ["a"], ["a"], {"a": ["a"]}),
    (many(some(A)), True, ["a"], ["a"], {"a": ["a"]}),
]

WITHIN_SOME = [
    (some(NONE), True, [], [], {}),
    (some(row(A, B)), False, ["a"], ["b"], {"a": ["b"], "b": ["a"]}),
    (some(either(A, B)), False, ["a", "b"], ["a", "b"], {"a": ["a", "b"], "b": ["a", "b"]}),
    (some(either(NONE, B)), True, ["b"], ["b"], {"b": ["b"]}),
    (some(maybe(A)), True, ["a"], ["a"], {"a": ["a"]}),
    (some(many(A)), True, ["a"], ["a"], {"a": ["a"]}),
    (some(some(A)), False, ["a"], ["a"], {"a": ["a"]}),
]

BARE_ROWS = [
    (row(NONE, NONE), True, [], [], {}),
    (row(maybe(C), maybe(B), maybe(A)), True, ["c", "b", "a"], ["c", "b", "a"],
     {"c": ["b", "a"], "b": ["a"], "a": []}),
    (row(many(C), many(A)), True, ["c", "a"], ["c", "a"], {"c": ["c", "a"], "a": ["a"]}),
    (row(maybe(A), B, maybe(C)), False, ["a", "b"], ["b", "c"], {"a": ["b"], "b": ["c"], "c": []}),
    (row(A, maybe(B), maybe(C), D), False, ["a"], ["d"],
     {"a": ["b", "c", "d"], "b": ["c", "d"], "c": ["d"], "d": []}),
    (row(A, many(NONE), B, some(NONE), maybe(NONE)), False, ["a"], ["b"], {"a": ["b"], "b": []}),
]

# Rounds that lead back: what is found late stands early in the pattern.
ROUNDS = [
    (some(row(maybe(C), some(A))), False, ["c", "a"], ["a"], {"c": ["a"], "a": ["c", "a"]}),
    (many(row(maybe(D), maybe(TEXT), maybe(A))), True, ["d", "#", "a"], ["d", "#", "a"],
     {"d": ["d", "#", "a"], "#": ["d", "#", "a"], "a": ["d", "#", "a"]}),
    (many(row(C, many(row(B, maybe(A))))), True, ["c"], ["c", "b", "a"],
     {"c": ["c", "b"], "b": ["c", "b", "a"], "a": ["c", "b"]}),
    (row(many(either(row(D, A), C)), B), False, ["d", "c", "b"], ["b"],
     {"d": ["a"], "a": ["d", "c", "b"], "c": ["d", "c", "b"], "b": []}),
    (either(some(row(B, A)), row(maybe(D), C)), False, ["b", "d", "c"], ["a", "c"],
     {"b": ["a"], "a": ["b"], "d": ["c"], "c": []}),
]

# Signs that are called like the sorts are signs all the same.
CALLED_LIKE_SORTS = [
    (one("none"), False, ["none"], ["none"], {"none": []}),
    (many(one("one")), True, ["one"], ["one"], {"one": ["one"]}),
    (row(one("row"), one("any")), False, ["row"], ["any"], {"row": ["any"], "any": []}),
    (row(one("maybe"), one("many"), one("some")), False, ["maybe"], ["some"],
     {"maybe": ["many"], "many": ["some"], "some": []}),
]

TABLE = (ALONE + WITHIN_ROW + WITHIN_ANY + WITHIN_MAYBE + WITHIN_MANY + WITHIN_SOME
         + BARE_ROWS + ROUNDS + CALLED_LIKE_SORTS)


def deep_row():
    """row(a, row(b, row(c, ...))), none at the end: 30 deep, of 60 tuples."""
    given = names(30)
    pattern = row(one(given[-2]), one(given[-1]), NONE)
    for name in reversed(given[:-2]):
        pattern = row(one(name), pattern)
    return pattern


def deep_maybes():
    """maybe(row(a, maybe(row(b, ...)))): 30 deep, each name may be the last."""
    given = names(15)
    pattern = many(one(given[-1]))
    for name in reversed(given[:-1]):
        pattern = maybe(row(one(name), pattern))
    return pattern


def deep_rounds(deep):
    """some(maybe(many(... z))): one tuple for each step down."""
    pattern = Z
    for level in range(deep - 1):
        pattern = [many, maybe, some][level % 3](pattern)
    return pattern


def in_order(told, order):
    return told == [sign for sign in order if sign in told]


class Checks(unittest.TestCase):
    def check(self, pattern, wanted_bare, wanted_firsts, wanted_lasts, wanted_nexts):
        before = copy.deepcopy(pattern)
        self.assertEqual(signs(pattern), list(wanted_nexts))
        self.assertEqual(pattern, before)
        self.assertIs(bare(pattern), wanted_bare)
        self.assertEqual(pattern, before)
        self.assertEqual(firsts(pattern), wanted_firsts)
        self.assertEqual(pattern, before)
        self.assertEqual(lasts(pattern), wanted_lasts)
        self.assertEqual(pattern, before)
        self.assertEqual(list(nexts(pattern).items()), list(wanted_nexts.items()))
        self.assertEqual(pattern, before)


class TestByHand(Checks):
    def test_table(self):
        for pattern, *wanted in TABLE:
            with self.subTest(pattern=pattern):
                self.check(pattern, *wanted)

    def test_the_table_has_every_sort_alone_and_within_each(self):
        sorts = ["none", "one", "row", "any", "maybe", "many", "some"]
        seen = {(outer[0], inner[0]) for outer, *_ in TABLE if outer[0] in sorts[2:]
                for inner in (outer[1] if isinstance(outer[1], list) else [outer[1]])}
        self.assertEqual({pattern[0] for pattern, *_ in ALONE}, set(sorts))
        self.assertEqual(seen, {(outer, inner) for outer in sorts[2:] for inner in sorts})

    def test_kinds(self):
        for pattern, *_ in TABLE:
            with self.subTest(pattern=pattern):
                self.assertIs(type(bare(pattern)), bool)
                self.assertIs(type(nexts(pattern)), dict)
                lists = [signs(pattern), firsts(pattern), lasts(pattern)] + list(nexts(pattern).values())
                self.assertEqual({type(each) for each in lists}, {list})

    def test_arguments_by_name(self):
        pattern = row(A, B)
        told = (signs(pattern=pattern), bare(pattern=pattern), firsts(pattern=pattern),
                lasts(pattern=pattern), nexts(pattern=pattern))
        self.assertEqual(told, (["a", "b"], False, ["a"], ["b"], {"a": ["b"], "b": []}))

    def test_signs_tells_each_sign_as_often_as_it_stands(self):
        self.assertEqual(signs(row(B, A, many(B))), ["b", "a", "b"])
        self.assertEqual(signs(either(TEXT, TEXT)), ["#", "#"])


class TestLargePatterns(Checks):
    def test_a_row_thirty_deep_of_sixty_tuples(self):
        pattern = deep_row()
        given = names(30)
        self.assertEqual((depth_of(pattern), tuples_in(pattern)), (30, 60))
        followers = {name: given[place + 1:place + 2] for place, name in enumerate(given)}
        self.check(pattern, False, given[:1], given[-1:], followers)

    def test_maybes_thirty_deep(self):
        pattern = deep_maybes()
        given = names(15)
        self.assertEqual(depth_of(pattern), 30)
        followers = {name: given[place + 1:place + 2] for place, name in enumerate(given)}
        followers[given[-1]] = given[-1:]
        self.check(pattern, True, given[:1], given, followers)

    def test_rounds_thirty_deep_and_somewhat_beyond(self):
        for deep in [30, 45]:
            pattern = deep_rounds(deep)
            self.assertEqual(depth_of(pattern), deep)
            self.check(pattern, True, ["z"], ["z"], {"z": ["z"]})

    def test_sixty_tuples_side_by_side_and_somewhat_beyond(self):
        for count in [58, 80]:
            given = names(count)[::-1]
            ones = [one(name) for name in given]
            everywhere = {name: given for name in given}
            nowhere = {name: [] for name in given}
            onward = {name: given[place + 1:place + 2] for place, name in enumerate(given)}
            self.assertEqual(tuples_in(many(either(*ones))), count + 2)
            self.check(many(either(*ones)), True, given, given, everywhere)
            self.check(some(row(*[maybe(each) for each in ones])), True, given, given, everywhere)
            self.check(maybe(either(*ones)), True, given, given, nowhere)
            self.check(maybe(row(*ones)), True, given[:1], given[-1:], onward)


class TestByWords(unittest.TestCase):
    """What is told, beside all words that can be cut as the pattern asks."""

    def fitting(self, pattern, order):
        # Any sign that may begin, end or follow does so in a word that passes no sign more than twice.
        cutter = Cutter()
        return [word for word in words_over(order, 2 * len(order)) if cutter.fits(pattern, word)]

    def test_bare_firsts_lasts_and_nexts_are_those_of_the_words(self):
        looked_at = 0
        for pattern in many_patterns():
            order = signs(pattern)
            if len(order) > 3:
                continue
            looked_at += 1
            words = self.fitting(pattern, order)
            pairs = {pair for word in words for pair in zip(word, word[1:])}
            with self.subTest(pattern=pattern):
                self.assertIs(bare(pattern), [] in words)
                self.assertEqual(firsts(pattern), [sign for sign in order if sign in {w[0] for w in words if w}])
                self.assertEqual(lasts(pattern), [sign for sign in order if sign in {w[-1] for w in words if w}])
                wanted = [(sign, [behind for behind in order if (sign, behind) in pairs]) for sign in order]
                self.assertEqual(list(nexts(pattern).items()), wanted)
        self.assertGreater(looked_at, 400)

    def test_everything_stands_in_the_patterns_order_and_once(self):
        for pattern in many_patterns():
            order = signs(pattern)
            told = nexts(pattern)
            with self.subTest(pattern=pattern):
                self.assertEqual(list(told), order)
                for each in [firsts(pattern), lasts(pattern)] + list(told.values()):
                    self.assertTrue(in_order(each, order), each)


class TestOwned(unittest.TestCase):
    def test_the_lists_told_are_the_askers_own(self):
        for asked in [signs, firsts, lasts]:
            for pattern, *_ in TABLE:
                with self.subTest(asked=asked, pattern=pattern):
                    before = copy.deepcopy(pattern)
                    told = asked(pattern)
                    wanted = list(told)
                    self.assertIsNot(asked(pattern), told)
                    told.insert(0, "other")
                    told.append("other")
                    self.assertEqual(pattern, before)
                    self.assertEqual(asked(pattern), wanted)

    def test_no_list_of_the_nexts_stands_at_two_places(self):
        for pattern in [pattern for pattern, *_ in TABLE] + many_patterns():
            with self.subTest(pattern=pattern):
                lists = list(nexts(pattern).values())
                self.assertEqual(len({id(each) for each in lists}), len(lists))

    def test_the_nexts_told_are_the_askers_own(self):
        for pattern, *_ in TABLE:
            with self.subTest(pattern=pattern):
                before = copy.deepcopy(pattern)
                told = nexts(pattern)
                wanted = copy.deepcopy(told)
                again = nexts(pattern)
                self.assertIsNot(again, told)
                for sign in told:
                    self.assertIsNot(again[sign], told[sign])
                    told[sign].append("other")
                told["other"] = []
                self.assertEqual(again, wanted)
                self.assertEqual(pattern, before)
                self.assertEqual(list(nexts(pattern).items()), list(wanted.items()))

    def test_what_is_told_of_one_matter_does_not_hang_on_another(self):
        pattern = many(either(A, B))
        for asked in [signs, firsts, lasts]:
            asked(pattern).clear()
        nexts(pattern).clear()
        told = (signs(pattern), bare(pattern), firsts(pattern), lasts(pattern), nexts(pattern))
        self.assertEqual(told, (["a", "b"], True, ["a", "b"], ["a", "b"], {"a": ["a", "b"], "b": ["a", "b"]}))

    def test_what_is_done_with_the_pattern_afterwards_changes_nothing_told(self):
        pattern = row(A, B)
        told = (signs(pattern), bare(pattern), firsts(pattern), lasts(pattern), nexts(pattern))
        wanted = copy.deepcopy(told)
        pattern[1].append(many(C))
        self.assertEqual(told, wanted)
        self.assertEqual(lasts(pattern), ["b", "c"])
        self.assertEqual(nexts(pattern), {"a": ["b"], "b": ["c"], "c": ["c"]})


if __name__ == "__main__":
    unittest.main()
