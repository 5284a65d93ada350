"""Which names of a form's rules can stand, by which word, and at what price."""

from formferry.papers import TEXT_SIGN
from formferry.prices import cheapest


# Those that can stand when within them only those known so far do.
def standing_on(known, rules):
    prices = {TEXT_SIGN: 1}
    for name in known:
        prices[name] = known[name][0]
    found = {}
    for name, pattern in rules:
        best = cheapest(pattern, prices)
        if best is not None:
            found[name] = (best[0] + 1, best[1])
    return found


# From each name that can stand to its price and a word of that price. Each round lets parts nest one deeper.
# No part of least size has a part of its own name within it, which could stand in its place and is smaller:
# it nests no deeper than there are rules, and as many rounds find it.
def standing(rules):
    known = {}
    for deep in range(len(rules)):
        known = standing_on(known, rules)
    return known
