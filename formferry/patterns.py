"""Patterns of words: which signs may begin, end and follow, and whether a word fits."""


def patterns_within(pattern):
    if pattern[0] in ("row", "any"):
        return list(pattern[1])
    if pattern[0] in ("maybe", "many", "some"):
        return [pattern[1]]
    return []


def signs(pattern):
    if pattern[0] == "one":
        return [pattern[1]]
    found = []
    for inner in patterns_within(pattern):
        found.extend(signs(inner))
    return found


def bare(pattern):
    kind = pattern[0]
    if kind == "row":
        return all([bare(inner) for inner in pattern[1]])
    if kind == "any":
        return any([bare(inner) for inner in pattern[1]])
    if kind == "some":
        return bare(pattern[1])
    return kind != "one"


def firsts(pattern):
    if pattern[0] == "one":
        return [pattern[1]]
    found = []
    for inner in patterns_within(pattern):
        found.extend(firsts(inner))
        if pattern[0] == "row" and not bare(inner):
            break
    return found


def lasts(pattern):
    if pattern[0] == "one":
        return [pattern[1]]
    found = []
    for inner in reversed(patterns_within(pattern)):
        found = lasts(inner) + found
        if pattern[0] == "row" and not bare(inner):
            break
    return found


def link(ends, begins, followers):
    for end in ends:
        for begin in begins:
            followers[end][begin] = True


# Behind a bare pattern the ends of those ahead of it stay open.
def link_row(patterns, followers):
    ends = []
    for inner in patterns:
        link(ends, firsts(inner), followers)
        ends = lasts(inner) + (ends if bare(inner) else [])


def link_all(pattern, followers):
    for inner in patterns_within(pattern):
        link_all(inner, followers)
    if pattern[0] == "row":
        link_row(pattern[1], followers)
    if pattern[0] in ("many", "some"):
        link(lasts(pattern[1]), firsts(pattern[1]), followers)


# A round of many or some finds an early sign behind a late one, so each list
# is laid out by the pattern's order at the end, not as its signs are found.
def nexts(pattern):
    order = signs(pattern)
    followers = {}
    for sign in order:
        followers[sign] = {}
    link_all(pattern, followers)
    told = {}
    for sign in order:
        told[sign] = [behind for behind in order if behind in followers[sign]]
    return told


# All that decides whether a word fits, for those who ask of many words.
def table(pattern):
    return (bare(pattern), firsts(pattern), lasts(pattern), nexts(pattern))


# No sign stands twice in a pattern, so its neighbours alone decide on a word.
def agrees(told, word):
    if not word:
        return told[0]
    if word[0] not in told[1] or word[-1] not in told[2]:
        return False
    for sign, behind in zip(word, word[1:]):
        if behind not in told[3][sign]:
            return False
    return True


def fits(pattern, word):
    return agrees(table(pattern), word)


def copied(pattern):
    if pattern[0] in ("row", "any"):
        return (pattern[0], [copied(inner) for inner in pattern[1]])
    if pattern[0] in ("maybe", "many", "some"):
        return (pattern[0], copied(pattern[1]))
    return pattern
