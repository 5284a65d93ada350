import copy
import random
import unittest

from formferry.ferries import ferried, joined, look_ferry
from tests.samples import all_rows, chain, is_new, lists_in, names, nested, random_ferry, random_row, star

# A first ferry, a second one, and the joined one.
BY_HAND = [
    ([], [], []),
    # Names that only the first has.
    ([("a", [])], [], [("a", [])]),
    ([("b", ["x", star()]), ("a", [("c", [star()])])], [], [("b", ["x", star()]), ("a", [("c", [star()])])]),
    # Names that only the second has.
    ([], [("b", ["x", star()]), ("a", [])], [("b", ["x", star()]), ("a", [])]),
    ([], [("a", [("b", ["x", ("c", [star()])]), "y"])], [("a", [("b", ["x", ("c", [star()])]), "y"])]),
    ([("a", [])], [("b", [("a", [star()])])], [("a", []), ("b", [("a", [star()])])]),
    # Those of the first in their order, then the others of the second in theirs.
    ([("d", ["d"]), ("b", ["b"])], [("e", ["e"]), ("b", ["no"]), ("c", ["c"]), ("d", ["no"]), ("a", ["a"])],
     [("d", ["d"]), ("b", ["b"]), ("e", ["e"]), ("c", ["c"]), ("a", ["a"])]),
    # The second ferries what the first lays down, and the star stays the star.
    ([("a", [star()])], [("b", ["no"])], [("a", [star()]), ("b", ["no"])]),
    ([("a", [("b", [star()])])], [("b", [("c", [star()])])], [("a", [("c", [star()])]), ("b", [("c", [star()])])]),
    ([("a", [("b", [star()])])], [("b", [star()])], [("a", [star()]), ("b", [star()])]),
    ([("a", [("b", ["x", star()]), ("b", ["y"])])], [("b", ["(", star(), ")"])],
     [("a", ["(", "x", star(), ")", "(", "y", ")"]), ("b", ["(", star(), ")"])]),
    ([("a", ["1", ("b", [("d", [star()])])])], [("b", [("c", ["2", star()]), "3"])],
     [("a", ["1", ("c", ["2", ("d", [star()])]), "3"]), ("b", [("c", ["2", star()]), "3"])]),
    # The star is gone where the second lets go what it stands within.
    ([("a", ["x", ("b", [star()])])], [("b", ["y"])], [("a", ["x", "y"]), ("b", ["y"])]),
    ([("a", [("b", [star()]), ("c", [])])], [("b", []), ("c", [star()])], [("a", []), ("b", []), ("c", [star()])]),
    # Both have a rule for the name: the second sees only what the first lays down.
    ([("a", ["x", star()])], [("a", ["no"])], [("a", ["x", star()])]),
    ([("a", [("a", [star()]), "x"])], [("a", [("b", [star()]), "y"])], [("a", [("b", [star()]), "y", "x"])]),
    # The texts * are texts.
    ([("a", ["*", ("b", ["*", star()])])], [("b", ["*", star(), "*"])],
     [("a", ["*", "*", "*", star(), "*"]), ("b", ["*", star(), "*"])]),
]


def count_stars(row):
    return sum(0 if isinstance(part, str) else int(part[0] == "*") + count_stars(part[1]) for part in row)


class Checks(unittest.TestCase):
    def join(self, one, other):
        """The joined ferry, looked at for all that each joined ferry keeps to."""
        given = copy.deepcopy((one, other))
        told = joined(one, other)
        self.assertEqual((one, other), given)
        self.assertTrue(is_new(told, one, other))
        self.assertIsNone(look_ferry(told))
        mine, theirs = [name for name, _ in one], [name for name, _ in other]
        self.assertEqual([name for name, _ in told], mine + [name for name in theirs if name not in mine])
        for _, row in told:
            self.assertLessEqual(count_stars(row), 1)
        return told


class TestJoined(Checks):
    def test_by_hand(self):
        for one, other, wanted in BY_HAND:
            with self.subTest(one=one, other=other):
                told = self.join(one, other)
                self.assertEqual(told, wanted)
                self.assertIs(type(told), list)
                for rule in told:
                    self.assertIs(type(rule), tuple)
                    self.assertIs(type(rule[1]), list)

    def test_with_no_rules_on_either_side_a_copy_is_told(self):
        for ferry in [one for one, _, _ in BY_HAND] + [other for _, other, _ in BY_HAND]:
            self.assertEqual(self.join(ferry, []), ferry)
            self.assertEqual(self.join([], ferry), ferry)

    def test_all_small_rows(self):
        rows = [row for count in range(4) for row in all_rows(["a", "b", "c"], count)]
        for one, other, wanted in BY_HAND:
            for row in rows:
                behind = ferried(other, ferried(one, row))
                if ferried(wanted, row) != behind or ferried(joined(one, other), row) != behind:
                    self.fail(f"{one} {other} {row}")

    def test_many_ferries_and_rows(self):
        chance = random.Random(47)
        given = ["a", "b", "c", "d", "e"]
        kept, gone = 0, 0
        for _ in range(600):
            one, other = random_ferry(chance, given[:4]), random_ferry(chance, given[1:])
            told = self.join(one, other)
            for name, row in one:
                kept += count_stars(dict(told)[name])
                gone += count_stars(row) - count_stars(dict(told)[name])
            for _ in range(6):
                row = random_row(chance, given + ["f"], 12)
                with self.subTest(one=one, other=other, row=row):
                    self.assertEqual(ferried(told, row), ferried(other, ferried(one, row)))
        self.assertGreater(kept, 100)
        self.assertGreater(gone, 20)

    def test_three_joined_in_either_way(self):
        chance = random.Random(53)
        given = ["a", "b", "c"]
        for _ in range(300):
            one, two, three = [random_ferry(chance, given) for _ in range(3)]
            left, right = joined(joined(one, two), three), joined(one, joined(two, three))
            with self.subTest(one=one, two=two, three=three):
                self.assertEqual(dict(left), dict(right))

    def test_all_that_is_told_is_new(self):
        for one, other, wanted in BY_HAND:
            with self.subTest(one=one, other=other):
                given = copy.deepcopy((one, other))
                told, again = joined(one, other), joined(one, other)
                self.assertTrue(is_new([told, again], one, other))
                for each in lists_in(told):
                    each.append("more")
                self.assertEqual((one, other), given)
                self.assertEqual(again, wanted)
                self.assertEqual(joined(one, other), wanted)
                one_copy, other_copy = given
                kept = joined(one_copy, other_copy)
                for each in lists_in(one_copy) + lists_in(other_copy):
                    each.clear()
                self.assertEqual(kept, wanted)

    def test_one_ferry_on_both_sides(self):
        ferry = [("a", [("a", ["x", star()])]), ("b", [star(), ("a", [])])]
        wanted = [("a", [("a", ["x", "x", star()])]), ("b", [star(), ("a", ["x"])])]
        self.assertEqual(self.join(ferry, ferry), wanted)

    def test_a_row_that_stands_in_several_rules(self):
        row = [("c", [star()])]
        told = self.join([("a", row), ("b", row)], [("c", row), ("d", row)])
        self.assertEqual(told, [(name, [("c", [star()])]) for name in "abcd"])


class TestLargeFerries(Checks):
    def test_a_hundred_rules_each(self):
        for count in [100, 120]:
            given = names(2 * count)
            # The first leads each of its names to one that the second has.
            one = [(name, [(given[count], ["x", star()])]) for name in given[:count]]
            other = [(name, [("other", [star()])]) for name in given[count // 2:count // 2 + count]]
            told = self.join(one, other)
            self.assertEqual(told[:count], [(name, [("other", ["x", star()])]) for name in given[:count]])
            self.assertEqual(told[count:], other[count // 2:])

    def test_deep_rows(self):
        for deep in [99, 120]:
            one = [("b", [nested(deep, [star()])])]
            self.assertEqual(self.join(one, [("level", [star()]), ("inmost", [star()])])[0][1],
                             [f"ahead {level}" for level in range(1, deep)] + [star()]
                             + [f"behind {level}" for level in range(deep - 1, 0, -1)])
            self.assertEqual(self.join([("b", [chain(deep)])], [("a", [star()])]), [("b", []), ("a", [star()])])

    def test_rows_of_two_thousand_parts(self):
        one = [("a", [("b", [])] * 1999 + [star()])]
        other = [("b", ["x"])]
        told = self.join(one, other)
        self.assertEqual(told, [("a", ["x"] * 1999 + [star()]), ("b", ["x"])])
        self.assertEqual(ferried(told, [("a", ["y"])]), ["x"] * 1999 + ["y"])


if __name__ == "__main__":
    unittest.main()
