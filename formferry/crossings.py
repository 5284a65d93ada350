"""What a ferry makes of the parts of one name: the signs that stand beside one another there, and its faults."""

from formferry.ferries import STAR
from formferry.papers import TEXT_SIGN, all_parts, sign_of, word
from formferry.ways import EDGE, may_stand


def with_edges(row):
    return [EDGE] + word(row) + [EDGE]


# The neighbours that stand there whatever the star stands for.
def written_pairs(row):
    signs = with_edges(row)
    return [pair for pair in zip(signs, signs[1:]) if STAR not in pair]


def tuples_written(row):
    return [part for part in all_parts(row) if sign_of(part) not in (TEXT_SIGN, STAR)]


def is_wrong(part, graphs):
    return part[0] not in graphs or not all([may_stand(pair, graphs[part[0]]) for pair in written_pairs(part[1])])


# What stands straight ahead of the star and straight behind it; None where it is not among the row's own parts.
def around_star(row):
    signs = with_edges(row)
    if STAR not in signs:
        return None
    place = signs.index(STAR)
    return (signs[place - 1], signs[place + 1])


def holder_of_star(row):
    for part in tuples_written(row):
        if around_star(part[1]) is not None:
            return part
    return None


# The graphs are those of the second form's patterns, by name. The star stands among the row's own parts, or a tuple
# holds it, whose word is then bound by the graph of the tuple's name; or there is none.
class Crossing:
    def __init__(self, way, inside, row, graphs):
        holder = holder_of_star(row)
        self.plain = way
        self.inside = inside
        self.pairs = written_pairs(row)
        self.wrong = any([is_wrong(part, graphs) for part in tuples_written(row)])
        self.bound = None if holder is None else graphs.get(holder[0], {})
        self.around = around_star(row if holder is None else holder[1])
