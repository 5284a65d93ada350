"""Which signs stand beside one another in what parts are ferried to, and the smallest parts for which they do.

Of a part there is told, for each pair of signs that can stand beside one another in the row that it is ferried to
(its edges counted in), the cheapest way to have them there: a price, and the labels of the part's own parts.
"""

from formferry.papers import TEXT_SIGN
from formferry.ways import EDGE, may_stand, ways_from

# That somewhere in what a part is ferried to a tuple does not hold. No word has these signs,
# so that it may be kept among the pairs: it is found within a part as they are, and may stand nowhere.
FAULT = ("!", "!")

EMPTY = ("", "")


def keep(found, pair, price, labels):
    if pair not in found or price < found[pair][0]:
        found[pair] = (price, labels)


def offers_of(pair, seen):
    found = {}
    for sign in seen:
        if pair in seen[sign]:
            found[sign] = (seen[sign][pair][0], (sign, pair))
    return found


# All that is ahead and the sign itself: from what may come last of it to the cheapest way.
def heads(inside, sign, seen):
    if sign == EDGE:
        return {EDGE: (0, [])}
    found = {}
    if sign in inside.ahead:
        ahead = inside.ahead[sign]
        for pair in seen.get(sign, {}):
            if pair[0] != EDGE and pair[1] == EDGE:
                found[pair[0]] = (ahead[0] + seen[sign][pair][0], ahead[1] + [(sign, pair)])
    return found


# The sign itself and all that is behind: from what may come first of it to the cheapest way.
def tails(inside, sign, seen):
    if sign == EDGE:
        return {EDGE: (0, [])}
    found = {}
    if sign in inside.behind:
        behind = inside.behind[sign]
        for pair in seen.get(sign, {}):
            if pair[0] == EDGE and pair[1] != EDGE:
                found[pair[1]] = (seen[sign][pair][0] + behind[0], [(sign, pair)] + behind[1])
    return found


def add_within(found, inside, sign, seen):
    if sign not in inside.ahead or sign not in inside.behind:
        return
    ahead = inside.ahead[sign]
    behind = inside.behind[sign]
    for pair in seen.get(sign, {}):
        if EDGE not in pair:
            price = ahead[0] + seen[sign][pair][0] + behind[0]
            keep(found, pair, price, ahead[1] + [(sign, pair)] + behind[1])


def add_beside(found, ahead, between, behind):
    for left in ahead:
        for right in behind:
            price = ahead[left][0] + between[0] + behind[right][0]
            keep(found, (left, right), price, ahead[left][1] + between[1] + behind[right][1])


# Two signs come to stand beside one another within one part, or from two parts between which all others vanish.
def pairs_inside(inside, seen):
    found = {}
    vanishing = offers_of(EMPTY, seen)
    for sign in inside.graph:
        add_within(found, inside, sign, seen)
        ahead = heads(inside, sign, seen)
        if ahead:
            between = ways_from(sign, inside.graph, vanishing)
            for other in between:
                add_beside(found, ahead, between[other], tails(inside, other, seen))
    return found


def add_written(found, crossing):
    for pair in crossing.pairs:
        keep(found, pair, crossing.plain[0], crossing.plain[1])


# The edges of what the star stands for lie beside what is written around it.
def add_starred(found, crossing, seen):
    inner = pairs_inside(crossing.inside, seen)
    for left, right in inner:
        way = inner[(left, right)]
        pair = (crossing.around[0] if left == EDGE else left, crossing.around[1] if right == EDGE else right)
        if crossing.bound is None:
            keep(found, pair, way[0] + 1, way[1])
        elif not may_stand(pair, crossing.bound):
            keep(found, FAULT, way[0] + 1, way[1])


# What was found is kept until there is cheaper, so that the rounds come to an end where there are several as cheap.
# Where what is written is wrong, no other part of the name is of use: none is smaller, and none is without that fault.
def next_pairs(crossing, pairs, seen):
    if crossing.wrong:
        return {FAULT: crossing.plain}
    found = dict(pairs)
    add_written(found, crossing)
    if crossing.around is not None:
        add_starred(found, crossing, seen)
    return found


def next_seen(crossings, seen):
    found = {TEXT_SIGN: {(EDGE, TEXT_SIGN): (1, []), (TEXT_SIGN, EDGE): (1, [])}}
    for name in crossings:
        found[name] = next_pairs(crossings[name], seen.get(name, {}), seen)
    return found


# Each round lets parts nest one deeper; when one finds nothing cheaper, none behind it does.
def all_seen(crossings):
    seen = {}
    found = next_seen(crossings, seen)
    while found != seen:
        seen = found
        found = next_seen(crossings, seen)
    return seen
