"""Forms: whether one holds together, which papers are of it, and the smallest part of each name."""

from formferry.errors import NoName, Twice
from formferry.grow import grown, plain_words
from formferry.papers import TEXT_SIGN, tuples_with_paths, word
from formferry.patterns import agrees, signs, table
from formferry.reach import standing


def look_twice(rules):
    ahead = {}
    for name, pattern in rules:
        found = signs(pattern)
        if name in ahead or len(set(found)) < len(found):
            raise Twice(name)
        ahead[name] = True


def look_names(root, rules):
    known = dict(rules)
    if root not in known:
        raise NoName(root)
    for rule in rules:
        for sign in signs(rule[1]):
            if sign != TEXT_SIGN and sign not in known:
                raise NoName(sign)


def look(form):
    look_twice(form[1])
    look_names(form[0], form[1])


# One table a rule: a paper has far more tuples than a form has rules.
def tables(rules):
    found = {}
    for name, pattern in rules:
        found[name] = table(pattern)
    return found


def holds(part, known):
    return part[0] in known and agrees(known[part[0]], word(part[1]))


def faults(form, paper):
    look(form)
    known = tables(form[1])
    found = []
    for path, part in tuples_with_paths(paper):
        other_root = path == [] and part[0] != form[0]
        if other_root or not holds(part, known):
            found.append(path)
    return found


def is_paper(form, paper):
    return faults(form, paper) == []


def prices(form):
    look(form)
    known = standing(form[1])
    found = {}
    for name in known:
        found[name] = known[name][0]
    return found


def least(form, name):
    look(form)
    known = standing(form[1])
    return grown((name, None), plain_words(known)) if name in known else None
