"""Ways through the words of a pattern: which sign may follow which, and the cheapest of what stands between them."""

from formferry.patterns import bare, firsts, lasts, nexts

# Stands at both ends of each word, ahead of its first sign and behind its last one.
EDGE = ""


# With the edges counted in, a word fits just where each of its signs may follow the one ahead.
def followers(pattern):
    ends = lasts(pattern)
    behind = nexts(pattern)
    found = {EDGE: firsts(pattern) + ([EDGE] if bare(pattern) else [])}
    for sign in behind:
        found[sign] = behind[sign] + ([EDGE] if sign in ends else [])
    return found


def may_stand(pair, graph):
    return pair[1] in graph.get(pair[0], [])


# From each sign that can come behind the begin to the cheapest way there: the price and the labels of all that stands
# between. The offers are what may stand between: from a sign to a price and a label.
def ways_from(begin, graph, offers):
    found = {}
    waiting = [(begin, 0, [])]
    while waiting:
        job = waiting.pop(0)
        for sign in graph[job[0]]:
            if sign not in found or job[1] < found[sign][0]:
                found[sign] = (job[1], job[2])
                if sign in offers:
                    waiting.append((sign, job[1] + offers[sign][0], job[2] + [offers[sign][1]]))
    return found


# The words of a name's pattern that have a given sign: what stands ahead of it and behind it at the least.
class Inside:
    def __init__(self, pattern, offers):
        self.graph = followers(pattern)
        self.ahead = ways_from(EDGE, self.graph, offers)
        self.behind = {}
        for sign in self.graph:
            found = ways_from(sign, self.graph, offers)
            if EDGE in found:
                self.behind[sign] = found[EDGE]
