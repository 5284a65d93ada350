import copy
import random
import unittest

from formferry.forms import least, prices
from tests.samples import A, B, C, D, NONE, TEXT, Z, Cutter, all_papers, either, is_new, many, maybe, names, one
from tests.samples import random_form, row, some, wanted_faults

STUCK = ("z", Z)

# The rules of a form, and the prices in the order in which they are to stand.
BY_HAND = [
    ([("a", NONE)], [("a", 1)]),
    ([("a", TEXT)], [("a", 2)]),
    ([("a", row(TEXT, B)), ("b", TEXT)], [("a", 4), ("b", 2)]),
    # Round in a circle, with a way out and without.
    ([("a", A)], []),
    ([("a", B), ("b", A)], []),
    ([("a", B), ("b", either(A, NONE))], [("a", 2), ("b", 1)]),
    ([("a", B), ("b", C), ("c", either(A, row(TEXT, D))), ("d", NONE)], [("a", 5), ("b", 4), ("c", 3), ("d", 1)]),
    ([("a", either(B, row(C, D))), ("b", A), ("c", TEXT), ("d", TEXT)],
     [("a", 5), ("b", 6), ("c", 2), ("d", 2)]),
    ([("a", either(row(B, C), TEXT)), ("b", row(A, C)), ("c", maybe(row(A, B)))], [("a", 2), ("b", 4), ("c", 1)]),
    ([("a", row(TEXT, A))], []),
    ([("a", row(maybe(A), TEXT))], [("a", 2)]),
    # Each sort around a name that cannot stand.
    ([("a", Z), STUCK], []),
    ([("a", row(TEXT, Z)), STUCK], []),
    ([("a", row(Z, TEXT)), STUCK], []),
    ([("a", either(Z, TEXT)), STUCK], [("a", 2)]),
    ([("a", either(TEXT, Z)), STUCK], [("a", 2)]),
    ([("a", either(Z, NONE)), STUCK], [("a", 1)]),
    ([("a", maybe(Z)), STUCK], [("a", 1)]),
    ([("a", many(Z)), STUCK], [("a", 1)]),
    ([("a", some(Z)), STUCK], []),
    ([("a", some(maybe(Z))), STUCK], [("a", 1)]),
    ([("a", some(either(Z, TEXT))), STUCK], [("a", 2)]),
    ([("a", row(many(Z), some(TEXT))), STUCK], [("a", 2)]),
    ([("a", row(maybe(Z), maybe(TEXT), many(B))), ("b", NONE), STUCK], [("a", 1), ("b", 1)]),
    # All words of a pattern need such a name.
    ([("a", either(row(Z, TEXT), row(B, A))), ("b", NONE), STUCK], [("b", 1)]),
    ([("a", either(Z, B)), ("b", row(maybe(TEXT), C)), ("c", some(B)), STUCK], []),
    ([("a", many(B)), ("b", row(TEXT, Z)), STUCK, ("c", B), ("d", TEXT)], [("a", 1), ("d", 2)]),
    # The cheaper one of an any, wherever it stands.
    ([("a", either(row(TEXT, B), C)), ("b", NONE), ("c", row(TEXT, D)), ("d", NONE)],
     [("a", 3), ("b", 1), ("c", 3), ("d", 1)]),
    ([("a", either(C, row(TEXT, B))), ("b", NONE), ("c", row(TEXT, D)), ("d", TEXT)],
     [("a", 3), ("b", 1), ("c", 4), ("d", 2)]),
    ([("a", either(B, C, D)), ("b", row(TEXT, C)), ("c", D), ("d", TEXT)],
     [("a", 3), ("b", 5), ("c", 3), ("d", 2)]),
    # some asks for one round, and no more.
    ([("a", some(row(TEXT, B))), ("b", some(TEXT))], [("a", 4), ("b", 2)]),
    # First found dear, by the way that nests less, then cheaper by the one that nests more.
    ([("a", either(row(B, C, TEXT), D)), ("b", TEXT), ("c", row(TEXT, maybe(A))), ("d", one("e")), ("e", NONE)],
     [("a", 3), ("b", 2), ("c", 2), ("d", 2), ("e", 1)]),
]


def size_sets(rules, limit):
    """For each name all sizes up to a limit that its parts may have, found by laying sizes side by side."""
    known = {name: set() for name, _ in rules}
    known["#"] = {1}

    def side_by_side(left, right):
        return {one_size + other for one_size in left for other in right if one_size + other <= limit}

    def sizes(pattern):
        kind = pattern[0]
        if kind == "none":
            return {0}
        if kind == "one":
            return known[pattern[1]]
        if kind == "row":
            found = {0}
            for inner in pattern[1]:
                found = side_by_side(found, sizes(inner))
            return found
        if kind == "any":
            return set().union(*[sizes(inner) for inner in pattern[1]])
        once = sizes(pattern[1])
        if kind == "maybe":
            return {0} | once
        rounds = {0} if kind == "many" else set(once)
        while not side_by_side(rounds, once) <= rounds:
            rounds |= side_by_side(rounds, once)
        return rounds

    grown = True
    while grown:
        grown = False
        for name, pattern in rules:
            found = {count + 1 for count in sizes(pattern) if count < limit}
            grown = grown or found != known[name]
            known[name] = found
    return known


def doubling(count):
    """Each name's pattern has every later name and a text: each price is twice the next one."""
    given = names(count)
    return [(name, row(TEXT, *[one(later) for later in given[place + 1:]], NONE))
            for place, name in enumerate(given)]


def whole_size(part):
    return 1 if isinstance(part, str) else 1 + sum(whole_size(each) for each in part[1])


class Checks(unittest.TestCase):
    def check_least(self, form, wanted, cutter):
        """Each name's least part against its price; wanted is a dict."""
        before = copy.deepcopy(form)
        for name in [name for name, _ in form[1]] + ["other"]:
            told = least(form, name)
            if name not in wanted:
                self.assertIsNone(told)
                continue
            self.assertIs(type(told), tuple)
            self.assertEqual(told[0], name)
            self.assertEqual(whole_size(told), wanted[name])
            self.assertEqual(wanted_faults((name, form[1]), told, cutter), [])
            kept, again = copy.deepcopy(told), least(form, name)
            self.assertTrue(is_new([told, again], form))
            self.assertEqual(again, kept)
            told[1].append("more")
            told[1].reverse()
            self.assertEqual(again, kept)
            again[1].clear()
            self.assertEqual(least(form, name), kept)
            self.assertEqual(least(copy.deepcopy(form), name), kept)
        self.assertEqual(form, before)

    def check(self, rules, wanted):
        """Which name is the root changes nothing."""
        for root, _ in rules:
            form = (root, copy.deepcopy(rules))
            told = prices(form)
            self.assertEqual(list(told.items()), wanted)
            self.assertEqual(form, (root, rules))
            self.check_least(form, dict(wanted), Cutter())
            self.assertEqual(list(prices(form).items()), wanted)


class TestByHand(Checks):
    def test_rules(self):
        for rules, wanted in BY_HAND:
            with self.subTest(rules=rules):
                self.check(rules, wanted)

    def test_prices_stand_in_the_order_of_the_rules(self):
        for rules, wanted in BY_HAND:
            with self.subTest(rules=rules):
                self.check(rules[::-1], wanted[::-1])

    def test_kinds_and_arguments_by_name(self):
        form = ("a", [("a", row(TEXT, B)), ("b", NONE)])
        told = prices(form=form)
        self.assertIs(type(told), dict)
        self.assertEqual({type(price) for price in told.values()}, {int})
        self.assertEqual(least(form=form, name="b"), ("b", []))
        self.assertIs(type(least(form=form, name="a")[1]), list)

    def test_a_name_that_cannot_stand_or_has_no_rule(self):
        form = ("a", [("a", maybe(B)), ("b", row(TEXT, Z)), STUCK])
        self.assertEqual(least(form, "a"), ("a", []))
        for name in ["b", "z", "c", "other"]:
            self.assertIsNone(least(form, name))

    def test_the_texts_are_texts(self):
        part = least(("a", [("a", row(TEXT, B)), ("b", TEXT)]), "a")
        texts = [part[1][0], part[1][1][1][0]]
        for text in texts:
            self.assertIs(type(text), str)
            self.assertLessEqual(len(text), 60)
            self.assertTrue(all(" " <= sign <= "~" and sign != "%" for sign in text))


class TestOtherWays(Checks):
    def test_small_forms_by_all_small_papers(self):
        chance = random.Random(5)
        known = ["b", "a"]
        papers = [paper for count in range(1, 6) for paper in all_papers(known, count)]
        found = 0
        for _ in range(60):
            form = random_form(chance, known)
            cutter = Cutter()
            least_sizes = {}
            for paper in papers:
                if paper[0] not in least_sizes and not wanted_faults((paper[0], form[1]), paper, cutter):
                    least_sizes[paper[0]] = whole_size(paper)
            told = prices(form)
            found += len(least_sizes)
            with self.subTest(form=form):
                self.assertEqual({name: price for name, price in told.items() if price <= 5}, least_sizes)
        self.assertGreater(found, 40)

    def test_many_forms_by_sets_of_sizes(self):
        chance = random.Random(23)
        limit = 60
        lacking, dear = 0, 0
        for turn in range(400):
            given = names(2 + turn % 5)
            chance.shuffle(given)
            form = random_form(chance, given, loose=0.05 * (turn % 4))
            known = size_sets(form[1], limit)
            wanted = [(name, min(known[name])) for name, _ in form[1] if known[name]]
            lacking += len(form[1]) - len(wanted)
            dear += len([price for _, price in wanted if price > 4])
            with self.subTest(form=form):
                told = prices(form)
                self.assertTrue(all(price <= limit for price in told.values()))
                self.assertEqual(list(told.items()), wanted)
                self.check_least(form, dict(wanted), Cutter())
        self.assertGreater(lacking, 100)
        self.assertGreater(dear, 50)


class TestLargeForms(Checks):
    def test_prices_that_double(self):
        for count in [10, 12]:
            rules = doubling(count)
            wanted = [(name, 2 ** (count - place)) for place, (name, _) in enumerate(rules)]
            form = (rules[0][0], rules)
            self.assertEqual(list(prices(form).items()), wanted)
            self.assertEqual(list(prices((form[0], rules[::-1])).items()), wanted[::-1])
            self.check_least(form, dict(wanted), Cutter())

    def test_a_long_chain_in_either_order(self):
        for count in [10, 14]:
            given = names(count)
            rules = [(name, some(one(later))) for name, later in zip(given, given[1:])] + [(given[-1], NONE)]
            wanted = [(name, count - place) for place, name in enumerate(given)]
            self.check(rules, wanted)
            self.check(rules[::-1], wanted[::-1])

    def test_a_chain_without_an_end(self):
        given = names(10)
        rules = [(name, some(one(later))) for name, later in zip(given, given[1:] + given[:1])]
        self.check(rules, [])

    def test_patterns_thirty_deep_and_of_sixty_tuples(self):
        deep = TEXT
        for level in range(28):
            deep = some(deep) if level % 2 else either(deep, Z) if level == 14 else row(NONE, deep)
        self.check([("a", deep), STUCK], [("a", 2)])
        wide = either(*[row(*[NONE] * 2)] * 10, *[NONE] * 20)
        self.check([("a", row(wide, TEXT))], [("a", 2)])


class TestOwned(unittest.TestCase):
    def test_the_prices_told_are_the_askers_own(self):
        form = ("a", [("a", row(TEXT, B)), ("b", NONE), STUCK])
        told, again = prices(form), prices(form)
        self.assertIsNot(told, again)
        told["z"] = 1
        told.pop("b")
        self.assertEqual(again, {"a": 3, "b": 1})
        self.assertEqual(prices(form), {"a": 3, "b": 1})
        self.assertIsNone(least(form, "z"))

    def test_no_list_of_a_least_part_stands_at_two_places(self):
        form = ("a", [("a", row(B, C)), ("b", D), ("c", row(D, TEXT)), ("d", row(one("e"), TEXT)), ("e", NONE)])
        told = least(form, "a")
        self.assertTrue(is_new(told, form))
        told[1][0][1][0][1].clear()
        self.assertEqual([each[0] for each in told[1][1][1][0][1][:1]], ["e"])

    def test_what_is_done_with_the_form_afterwards(self):
        form = ("a", [("a", row(TEXT, B)), ("b", NONE)])
        told = (prices(form), least(form, "a"))
        wanted = copy.deepcopy(told)
        form[1][0][1][1].append(C)
        form[1].append(("c", TEXT))
        self.assertEqual(told, wanted)
        self.assertEqual(prices(form), {"a": 5, "b": 1, "c": 2})


if __name__ == "__main__":
    unittest.main()
