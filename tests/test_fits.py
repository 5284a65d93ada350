import copy
import unittest

from formferry.patterns import fits, signs
from tests.samples import A, B, C, NONE, TEXT, either, many, maybe, one, row, some
from tests.samples import Cutter, many_patterns, names, words_over

FOREIGN = "zz"

# A pattern, words that fit and words that do not.
BY_HAND = [
    (NONE, [""], ["a", "#"]),
    (A, ["a"], ["", "b", "aa", "ab", "ba", "#"]),
    (TEXT, ["#"], ["", "a", "##"]),
    (row(A, B), ["ab"], ["", "a", "b", "ba", "abb", "aab", "abab"]),
    (either(A, B), ["a", "b"], ["", "ab", "ba", "aa", "c"]),
    (either(A, NONE), ["", "a"], ["aa", "b"]),
    (maybe(A), ["", "a"], ["aa", "b"]),
    (many(A), ["", "a", "aa", "aaaaa"], ["b", "ab", "ba", "aba"]),
    (some(A), ["a", "aa", "aaaaa"], ["", "b", "ab", "ba"]),
    (some(maybe(A)), ["", "a", "aa"], ["b", "ab"]),
    (some(NONE), [""], ["a"]),
    (row(maybe(A), many(TEXT)), ["", "a", "#", "a#", "a##", "##"], ["aa", "#a", "a#a"]),
    (row(maybe(A), B, maybe(C)), ["b", "ab", "bc", "abc"], ["", "a", "c", "ac", "abcb", "cba"]),
    (many(row(A, maybe(B))), ["", "a", "ab", "aab", "aba"], ["b", "abb", "ba"]),
    (many(either(row(A, B), C)), ["", "ab", "c", "abc", "cab", "ccabab"], ["a", "b", "ac", "ba", "abb"]),
]


class TestFitsByHand(unittest.TestCase):
    def test_words(self):
        for pattern, fitting, others in BY_HAND:
            for letters in fitting + others:
                with self.subTest(pattern=pattern, word=letters):
                    self.assertIs(fits(pattern, list(letters)), letters in fitting)

    def test_arguments_by_name(self):
        self.assertIs(fits(pattern=many(A), word=["a"]), True)

    def test_signs_are_compared_whole(self):
        self.assertIs(fits(one("ab"), ["ab"]), True)
        self.assertIs(fits(one("ab"), ["a", "b"]), False)
        self.assertIs(fits(row(A, B), ["ab"]), False)
        self.assertIs(fits(some(one("many")), ["many", "many"]), True)

    def test_pattern_and_word_stay_as_they_were(self):
        for pattern, fitting, others in BY_HAND:
            for letters in fitting + others:
                word = list(letters)
                pattern_before = copy.deepcopy(pattern)
                told = fits(pattern, word)
                self.assertEqual(pattern, pattern_before)
                self.assertEqual(word, list(letters))
                self.assertIs(fits(pattern, word), told)


class TestFitsByCutting(unittest.TestCase):
    def test_all_short_words(self):
        answers = {True: 0, False: 0}
        for pattern in many_patterns():
            known = signs(pattern)
            cutter = Cutter()
            before = copy.deepcopy(pattern)
            for word in words_over(known + [FOREIGN], 4 if len(known) < 5 else 3):
                wanted = cutter.fits(pattern, word)
                answers[wanted] += 1
                told = fits(pattern, word)
                if told is not wanted:
                    self.fail(f"{pattern} {word}: {told}")
            self.assertEqual(pattern, before)
        self.assertGreater(min(answers.values()), 5000)

    def test_longer_words_of_few_signs(self):
        for pattern in many_patterns()[::4]:
            known = signs(pattern)
            if len(known) > 2:
                continue
            cutter = Cutter()
            for word in words_over(known + [FOREIGN], 6):
                wanted = cutter.fits(pattern, word)
                if fits(pattern, word) is not wanted:
                    self.fail(f"{pattern} {word}: not {wanted}")


class TestLongWords(unittest.TestCase):
    def check(self, pattern, word, wanted):
        before = list(word)
        with self.subTest(pattern=pattern, word=word):
            self.assertIs(Cutter().fits(pattern, word), wanted)
            self.assertIs(fits(pattern, word), wanted)
            self.assertEqual(word, before)

    def test_rounds_of_forty_signs(self):
        pattern = many(either(row(A, B), some(TEXT), row(C, maybe(one("d")))))
        word = (["a", "b", "#", "#", "c", "c", "d", "#"] * 5)[:40]
        self.check(pattern, word, True)
        for place in range(0, 40, 3):
            self.check(pattern, word[:place] + [FOREIGN] + word[place + 1:], False)
        self.check(pattern, word[:8] + word[9:], False)
        self.check(pattern, word + ["a"], False)
        self.check(pattern, word + ["d"], False)

    def test_a_row_of_forty_signs(self):
        given = names(40)
        pattern = row(*[one(name) for name in given])
        self.check(pattern, list(given), True)
        self.check(pattern, given[:-1], False)
        self.check(pattern, given[1:], False)
        self.check(pattern, given[:20] + given[21:], False)
        self.check(pattern, given + given[-1:], False)
        self.check(pattern, given[::-1], False)

    def test_a_row_of_forty_signs_that_may_lack(self):
        given = names(40)
        pattern = row(*[maybe(one(name)) for name in given])
        self.check(pattern, [], True)
        self.check(pattern, list(given), True)
        self.check(pattern, given[::3], True)
        self.check(pattern, given[:20] + given[19:], False)
        self.check(pattern, given[20:] + given[:20], False)

    def test_very_long_words(self):
        self.assertIs(fits(many(row(A, B)), ["a", "b"] * 1000), True)
        self.assertIs(fits(many(row(A, B)), ["a", "b"] * 999 + ["b", "a"]), False)


if __name__ == "__main__":
    unittest.main()
