"""What several tests need: short ways to write patterns, many patterns, and words looked at by cutting."""

import itertools

NONE = ("none",)


def one(sign):
    return ("one", sign)


def row(*patterns):
    return ("row", list(patterns))


def either(*patterns):
    return ("any", list(patterns))


def maybe(pattern):
    return ("maybe", pattern)


def many(pattern):
    return ("many", pattern)


def some(pattern):
    return ("some", pattern)


A, B, C, D, Z, TEXT = one("a"), one("b"), one("c"), one("d"), one("z"), one("#")


def tuples_in(pattern):
    """How many tuples a pattern has in all."""
    if pattern[0] in ("row", "any"):
        return 1 + sum(tuples_in(inner) for inner in pattern[1])
    if pattern[0] in ("maybe", "many", "some"):
        return 1 + tuples_in(pattern[1])
    return 1


def depth_of(pattern):
    if pattern[0] in ("row", "any"):
        return 1 + max(depth_of(inner) for inner in pattern[1])
    if pattern[0] in ("maybe", "many", "some"):
        return 1 + depth_of(pattern[1])
    return 1


def names(count):
    """Names of small letters, each another one."""
    letters = "abcdefghijklmnopqrstuvwxyz"
    pairs = [first + second for first in letters for second in letters]
    return (list(letters) + pairs)[:count]


def shapes(deep):
    """All patterns of at most so many sorts within one another, rows and anys of two; every sign is still None."""
    found = [NONE, ("one", None)]
    for _ in range(deep):
        wider = [NONE, ("one", None)]
        wider += [(kind, inner) for kind in ("maybe", "many", "some") for inner in found]
        wider += [(kind, [left, right]) for kind in ("row", "any") for left in found for right in found]
        found = wider
    return found


def signed(shape, fresh):
    """The shape with the fresh signs put in, in the order in which they come."""
    if shape[0] == "one":
        return ("one", next(fresh))
    if shape[0] in ("row", "any"):
        return (shape[0], [signed(inner, fresh) for inner in shape[1]])
    if shape[0] == "none":
        return NONE
    return (shape[0], signed(shape[1], fresh))


def many_patterns():
    """Every pattern of three sorts within one another, and some of four; the signs are not in the order of texts."""
    small = shapes(2)
    deeper = [(kind, inner) for kind in ("maybe", "many", "some") for inner in small[::5]]
    deeper += [(kind, [left, right]) for kind in ("row", "any") for left, right in zip(small[::9], small[4::9])]
    signs = ["d", "#", "c", "a", "f", "e", "h", "g"]
    return [signed(shape, iter(signs)) for shape in small + deeper]


def words_over(signs, longest):
    for length in range(longest + 1):
        for word in itertools.product(signs, repeat=length):
            yield list(word)


class Cutter:
    """Whether words can be cut as the seven sorts ask; it knows nothing of firsts, lasts and nexts."""

    def __init__(self):
        self.known = {}
        self.patterns = []

    def fits(self, pattern, word):
        key = (id(pattern), tuple(word))
        if key not in self.known:
            # Kept, so that no other pattern gets this one's id.
            self.patterns.append(pattern)
            self.known[key] = self.look(pattern, tuple(word))
        return self.known[key]

    def look(self, pattern, word):
        kind = pattern[0]
        if kind == "none":
            return word == ()
        if kind == "one":
            return word == (pattern[1],)
        if kind == "row":
            return self.row_fits(pattern[1], word)
        if kind == "any":
            return any([self.fits(inner, word) for inner in pattern[1]])
        if kind == "maybe":
            return word == () or self.fits(pattern[1], word)
        if kind == "many":
            return self.rounds_fit(pattern[1], word)
        return any([self.fits(pattern[1], word[:cut]) and self.rounds_fit(pattern[1], word[cut:])
                    for cut in range(len(word) + 1)])

    def row_fits(self, patterns, word):
        """Where each prefix that the patterns so far can be cut from ends."""
        ends = [0]
        for inner in patterns:
            ends = [end for end in range(len(word) + 1)
                    if any([begin <= end and self.fits(inner, word[begin:end]) for begin in ends])]
        return len(word) in ends

    def rounds_fit(self, inner, word):
        """No, one or more words that fit; empty ones among them change nothing."""
        reached = [0]
        for end in range(1, len(word) + 1):
            if any([self.fits(inner, word[begin:end]) for begin in reached]):
                reached.append(end)
        return len(word) in reached
