"""Ferries: whether one holds together, what rows it makes of rows, and two of them joined."""

from formferry.errors import Stars, Twice
from formferry.forms import is_paper, look
from formferry.papers import all_parts, sign_of

STAR = "*"


def stars(row):
    return len([part for part in all_parts(row) if sign_of(part) == STAR])


def look_ferry(ferry):
    ahead = {}
    for name, row in ferry:
        if name in ahead:
            raise Twice(name)
        if stars(row) > 1:
            raise Stars(name)
        ahead[name] = True


# What is still to be done, the first at the end: a part, the list behind which what comes of it is laid,
# and the parts that the star stands for; these are None for a part that is itself to be ferried.
def jobs(parts, target, starred):
    return [(part, target, starred) for part in reversed(parts)]


# A star that is itself to be ferried has no rule and stays, which is what a joined ferry asks.
def carry(rules, part, target, starred):
    if isinstance(part, str):
        target.append(part)
        return []
    if starred is None and part[0] in rules:
        return jobs(rules[part[0]], target, part[1])
    if starred is not None and part[0] == STAR:
        return jobs(starred, target, None)
    inner = []
    target.append((part[0], inner))
    return jobs(part[1], inner, starred)


# Rows nest deeper than calls safely do, so what waits is kept in a list.
def carried(rules, row):
    told = []
    waiting = jobs(row, told, None)
    while waiting:
        job = waiting.pop()
        waiting.extend(carry(rules, job[0], job[1], job[2]))
    return told


def ferried(ferry, row):
    look_ferry(ferry)
    return carried(dict(ferry), row)


def staying_row(name):
    return [(name, [(STAR, [])])]


def joined(one, other):
    look_ferry(one)
    look_ferry(other)
    firsts = dict(one)
    seconds = dict(other)
    told = [(name, carried(seconds, row)) for name, row in one]
    told.extend([(name, carried(seconds, staying_row(name))) for name in seconds if name not in firsts])
    return told


def arrives(ferry, form, paper):
    look_ferry(ferry)
    look(form)
    told = carried(dict(ferry), [paper])
    return len(told) == 1 and not isinstance(told[0], str) and is_paper(form, told[0])
