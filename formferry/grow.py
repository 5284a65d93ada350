"""Parts grown from labels: a label is a sign and what more is asked of the part, None for nothing more."""

from formferry.papers import TEXT_SIGN


def plain(signs):
    return [(sign, None) for sign in signs]


# From each tuple's label the labels of its own parts, where no more is asked than that it is of least size.
def plain_words(known):
    found = {}
    for name in known:
        found[(name, None)] = plain(known[name][1])
    return found


# A label stands for many parts, so each of them is built anew.
def grown(label, words):
    told = []
    waiting = [(label, told)]
    while waiting:
        job = waiting.pop()
        sign = job[0][0]
        if sign == TEXT_SIGN:
            job[1].append("")
        else:
            inner = []
            job[1].append((sign, inner))
            waiting.extend([(each, inner) for each in reversed(words[job[0]])])
    return told[0]
