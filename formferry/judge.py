"""Whether all papers of a form arrive in a second one, and a smallest one that does not."""

from formferry.crossings import Crossing
from formferry.ferries import look_ferry, staying_row
from formferry.forms import look
from formferry.grow import grown, plain, plain_words
from formferry.pairs import all_seen
from formferry.papers import TEXT_SIGN
from formferry.reach import standing
from formferry.ways import Inside, followers, may_stand


def plain_offers(known):
    found = {TEXT_SIGN: (1, (TEXT_SIGN, None))}
    for name in known:
        found[name] = (known[name][0], (name, None))
    return found


def graphs_of(rules):
    found = {}
    for name, pattern in rules:
        found[name] = followers(pattern)
    return found


# Only of names that can stand: no paper has another one.
def all_crossings(known, rules, ferry, graphs):
    offers = plain_offers(known)
    patterns = dict(rules)
    rows = dict(ferry)
    found = {}
    for name in known:
        way = (known[name][0], plain(known[name][1]))
        row = rows[name] if name in rows else staying_row(name)
        found[name] = Crossing(way, Inside(patterns[name], offers), row, graphs)
    return found


def words_of(known, seen):
    found = plain_words(known)
    for name in known:
        for pair in seen[name]:
            found[(name, pair)] = seen[name][pair][1]
    return found


# The label of a smallest paper that does not arrive and the words that it is grown by; None where all arrive.
def found_lost(form, ferry, other):
    look(form)
    look_ferry(ferry)
    look(other)
    known = standing(form[1])
    seen = all_seen(all_crossings(known, form[1], ferry, graphs_of(other[1])))
    top = followers(("one", other[0]))
    ways = seen.get(form[0], {})
    wrong = [pair for pair in ways if not may_stand(pair, top)]
    if not wrong:
        return None
    return ((form[0], min(wrong, key=lambda pair: ways[pair][0])), words_of(known, seen))


def all_arrive(form, ferry, other):
    return found_lost(form, ferry, other) is None


def lost(form, ferry, other):
    found = found_lost(form, ferry, other)
    return None if found is None else grown(found[0], found[1])


def within(one, other):
    return all_arrive(one, [], other)


def alike(one, other):
    return within(one, other) and within(other, one)
