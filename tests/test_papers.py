import copy
import unittest

from formferry.papers import size, texts, word
from tests.samples import chain, nested

MIXED = [
    "one",
    ("list", [("item", ["two"]), ("item", []), "three", ("item", [("deep", ["four", "four"])])]),
    "",
    ("end", []),
    "one",
]

# Each row with its size, its texts and its word.
ROWS = [
    ([], 0, [], []),
    (["a"], 1, ["a"], ["#"]),
    (["b", "a", "b"], 3, ["b", "a", "b"], ["#", "#", "#"]),
    ([""], 1, [""], ["#"]),
    (["", "", "x"], 3, ["", "", "x"], ["#", "#", "#"]),
    (["#", "*", "name"], 3, ["#", "*", "name"], ["#", "#", "#"]),
    ([("a", [])], 1, [], ["a"]),
    ([("b", []), ("a", []), ("b", [])], 3, [], ["b", "a", "b"]),
    ([("a", [("b", [])])], 2, [], ["a"]),
    ([("a", [""])], 2, [""], ["a"]),
    ([("a", ["x", ("b", ["y"]), "z"])], 5, ["x", "y", "z"], ["a"]),
    ([("a", ["x"]), "y", ("b", [("a", ["z"])])], 6, ["x", "y", "z"], ["a", "#", "b"]),
    ([("*", [])], 1, [], ["*"]),
    (MIXED, 13, ["one", "two", "three", "four", "four", "", "one"], ["#", "list", "#", "end", "#"]),
]


class TestPapers(unittest.TestCase):
    def check(self, row, wanted_size, wanted_texts, wanted_word):
        before = copy.deepcopy(row)
        self.assertEqual(size(row), wanted_size)
        self.assertEqual(row, before)
        self.assertEqual(texts(row), wanted_texts)
        self.assertEqual(row, before)
        self.assertEqual(word(row), wanted_word)
        self.assertEqual(row, before)

    def test_rows(self):
        for row, wanted_size, wanted_texts, wanted_word in ROWS:
            with self.subTest(row=row):
                self.check(row, wanted_size, wanted_texts, wanted_word)

    def test_kinds(self):
        for row, *_ in ROWS:
            with self.subTest(row=row):
                self.assertIs(type(size(row)), int)
                self.assertIs(type(texts(row)), list)
                self.assertIs(type(word(row)), list)

    def test_arguments_by_name(self):
        self.assertEqual((size(row=MIXED), len(texts(row=MIXED)), len(word(row=MIXED))), (13, 7, 5))

    def test_a_hundred_deep(self):
        self.check([chain(100)], 100, [], ["a"])
        ahead = [f"ahead {level}" for level in range(1, 100)]
        behind = [f"behind {level}" for level in range(99, 0, -1)]
        self.check([nested(100, ["in", ""])], 300, ahead + ["in", ""] + behind, ["level"])
        self.check(["x", nested(100, []), chain(100)], 399, ["x"] + ahead + behind, ["#", "level", "a"])

    def test_two_thousand_parts(self):
        flat = [f"text {number}" for number in range(2000)]
        self.check(flat, 2000, list(flat), ["#"] * 2000)
        self.check([("a", [])] * 2000, 2000, [], ["a"] * 2000)
        self.check([("a", list(flat[:1999]))], 2000, flat[:1999], ["a"])
        pairs = [("item", [text]) for text in flat[:1000]]
        self.check(pairs, 2000, flat[:1000], ["item"] * 1000)
        ahead = [f"ahead {level}" for level in range(1, 100)]
        behind = [f"behind {level}" for level in range(99, 0, -1)]
        self.check([nested(100, flat[:1702])], 2000, ahead + flat[:1702] + behind, ["level"])

    def test_somewhat_beyond_the_bounds_nothing_is_refused(self):
        self.check([chain(130)], 130, [], ["a"])
        self.check(["x" * 70] * 2300, 2300, ["x" * 70] * 2300, ["#"] * 2300)

    def test_the_word_is_of_the_rows_own_parts_only(self):
        self.assertEqual(word([("a", [("b", []), "x", ("c", [("d", [])])]), ("e", ["y"])]), ["a", "e"])
        self.assertEqual(word([("a", ["x"])]), ["a"])

    def test_a_part_that_stands_twice_counts_twice(self):
        shared = ("a", ["x", ("b", [])])
        self.check([shared, ("c", [shared]), shared], 10, ["x", "x", "x"], ["a", "c", "a"])

    def test_what_is_told_is_the_askers_own(self):
        for asked in [texts, word]:
            for row in [[], ["a", "b"], ["#"], MIXED]:
                with self.subTest(asked=asked, row=row):
                    before = copy.deepcopy(row)
                    told = asked(row)
                    wanted = list(told)
                    self.assertIsNot(told, row)
                    told.append("more")
                    told[0] = "other"
                    self.assertEqual(row, before)
                    self.assertEqual(asked(row), wanted)

    def test_what_is_done_with_the_row_afterwards_changes_nothing_told(self):
        row = ["a", ("b", ["c"])]
        told = (texts(row), word(row))
        row[1][1].append("d")
        row.append("e")
        self.assertEqual(told, (["a", "c"], ["#", "b"]))
        self.assertEqual((size(row), texts(row), word(row)), (5, ["a", "c", "d", "e"], ["#", "b", "#"]))


if __name__ == "__main__":
    unittest.main()
