"""What several tests need: short ways to write patterns, many patterns, papers, forms and ferries, and another way
to look at words (by cutting) and at papers (by the words of each of their tuples)."""

import itertools

from formferry.errors import FerryError

NONE = ("none",)


def one(sign):
    return ("one", sign)


def row(*patterns):
    return ("row", list(patterns))


def either(*patterns):
    return ("any", list(patterns))


def maybe(pattern):
    return ("maybe", pattern)


def many(pattern):
    return ("many", pattern)


def some(pattern):
    return ("some", pattern)


A, B, C, D, Z, TEXT = one("a"), one("b"), one("c"), one("d"), one("z"), one("#")


def star():
    return ("*", [])


def nested(deep, inmost):
    """A paper of so many tuples within one another, a text on each side of the next one."""
    part = ("inmost", inmost)
    for level in range(deep - 1, 0, -1):
        part = ("level", [f"ahead {level}", part, f"behind {level}"])
    return part


def chain(deep):
    part = ("a", [])
    for _ in range(deep - 1):
        part = ("a", [part])
    return part


def lists_in(value):
    """Each list and dict in a value, as often as it stands there."""
    found, waiting = [], [value]
    while waiting:
        each = waiting.pop()
        if isinstance(each, (list, dict)):
            found.append(each)
        if isinstance(each, (list, tuple)):
            waiting.extend(each)
        elif isinstance(each, dict):
            waiting.extend(each.values())
    return found


def is_new(told, *given):
    """Whether no list stands twice in what is told, nor in what was handed in."""
    ids = [id(each) for each in lists_in(told)]
    return len(set(ids)) == len(ids) and not set(ids) & {id(each) for each in lists_in(list(given))}


def tuples_in(pattern):
    """How many tuples a pattern has in all."""
    if pattern[0] in ("row", "any"):
        return 1 + sum(tuples_in(inner) for inner in pattern[1])
    if pattern[0] in ("maybe", "many", "some"):
        return 1 + tuples_in(pattern[1])
    return 1


def depth_of(pattern):
    if pattern[0] in ("row", "any"):
        return 1 + max(depth_of(inner) for inner in pattern[1])
    if pattern[0] in ("maybe", "many", "some"):
        return 1 + depth_of(pattern[1])
    return 1


def names(count):
    """Names of small letters, each another one."""
    letters = "abcdefghijklmnopqrstuvwxyz"
    pairs = [first + second for first in letters for second in letters]
    return (list(letters) + pairs)[:count]


def shapes(deep):
    """All patterns of at most so many sorts within one another, rows and anys of two; every sign is still None."""
    found = [NONE, ("one", None)]
    for _ in range(deep):
        wider = [NONE, ("one", None)]
        wider += [(kind, inner) for kind in ("maybe", "many", "some") for inner in found]
        wider += [(kind, [left, right]) for kind in ("row", "any") for left in found for right in found]
        found = wider
    return found


def signed(shape, fresh):
    """The shape with the fresh signs put in, in the order in which they come."""
    if shape[0] == "one":
        return ("one", next(fresh))
    if shape[0] in ("row", "any"):
        return (shape[0], [signed(inner, fresh) for inner in shape[1]])
    if shape[0] == "none":
        return NONE
    return (shape[0], signed(shape[1], fresh))


def many_patterns():
    """Every pattern of three sorts within one another, and some of four; the signs are not in the order of texts."""
    small = shapes(2)
    deeper = [(kind, inner) for kind in ("maybe", "many", "some") for inner in small[::5]]
    deeper += [(kind, [left, right]) for kind in ("row", "any") for left, right in zip(small[::9], small[4::9])]
    signs = ["d", "#", "c", "a", "f", "e", "h", "g"]
    return [signed(shape, iter(signs)) for shape in small + deeper]


def words_over(signs, longest):
    for length in range(longest + 1):
        for word in itertools.product(signs, repeat=length):
            yield list(word)


class Cutter:
    """Whether words can be cut as the seven sorts ask; it knows nothing of firsts, lasts and nexts."""

    def __init__(self):
        self.known = {}
        self.patterns = []

    def fits(self, pattern, word):
        key = (id(pattern), tuple(word))
        if key not in self.known:
            # Kept, so that no other pattern gets this one's id.
            self.patterns.append(pattern)
            self.known[key] = self.look(pattern, tuple(word))
        return self.known[key]

    def look(self, pattern, word):
        kind = pattern[0]
        if kind == "none":
            return word == ()
        if kind == "one":
            return word == (pattern[1],)
        if kind == "row":
            return self.row_fits(pattern[1], word)
        if kind == "any":
            return any([self.fits(inner, word) for inner in pattern[1]])
        if kind == "maybe":
            return word == () or self.fits(pattern[1], word)
        if kind == "many":
            return self.rounds_fit(pattern[1], word)
        return any([self.fits(pattern[1], word[:cut]) and self.rounds_fit(pattern[1], word[cut:])
                    for cut in range(len(word) + 1)])

    def row_fits(self, patterns, word):
        """Where each prefix that the patterns so far can be cut from ends."""
        ends = [0]
        for inner in patterns:
            ends = [end for end in range(len(word) + 1)
                    if any([begin <= end and self.fits(inner, word[begin:end]) for begin in ends])]
        return len(word) in ends

    def rounds_fit(self, inner, word):
        """No, one or more words that fit; empty ones among them change nothing."""
        reached = [0]
        for end in range(1, len(word) + 1):
            if any([self.fits(inner, word[begin:end]) for begin in reached]):
                reached.append(end)
        return len(word) in reached


def refusal_of(asked):
    """The class and the name of the refusal, or None."""
    try:
        asked()
    except FerryError as refusal:
        return refusal.__class__, refusal.name
    return None


def wanted_faults(form, paper, cutter):
    """The faults of a paper, by cutting the word of each of its tuples."""
    root, rules = form[0], dict(form[1])
    found = []

    def walk(path, part):
        signs = ["#" if isinstance(each, str) else each[0] for each in part[1]]
        bad = part[0] not in rules or not cutter.fits(rules[part[0]], signs)
        if bad or (path == () and part[0] != root):
            found.append(list(path))
        for place, each in enumerate(part[1]):
            if not isinstance(each, str):
                walk(path + (place,), each)

    walk((), paper)
    return found


def all_rows(names, count, known=None):
    """All rows of so many parts in all, of texts and of tuples of these names."""
    known = {} if known is None else known
    if count not in known:
        known[count] = [[]] if count == 0 else []
        for first in range(1, count + 1):
            heads = [(name, inner) for name in names for inner in all_rows(names, first - 1, known)]
            heads += ["x"] if first == 1 else []
            known[count] += [[head] + rest for head in heads for rest in all_rows(names, count - first, known)]
    return known[count]


def all_papers(names, count):
    return [(name, inner) for name in names for inner in all_rows(names, count - 1)]


class AllPapers:
    """All papers of a form of so many parts, laid together as the sorts of its patterns tell."""

    def __init__(self, form):
        self.root, self.rules = form[0], dict(form[1])
        self.known = {}

    def papers(self, count):
        return self.parts(self.root, count)

    def parts(self, sign, count):
        if count < 1 or sign == "#":
            return ["x"] if count == 1 else []
        return [(sign, inner) for inner in self.rows(self.rules[sign], count - 1)]

    def rows(self, pattern, count):
        """Each row once: one that can be cut in several ways is laid as often."""
        key = (pattern[0], id(pattern[-1]), count)
        if key not in self.known:
            self.known[key] = list({repr(each): each for each in self.laid(pattern, count)}.values())
        return self.known[key]

    def laid(self, pattern, count):
        kind, inner = pattern[0], pattern[-1]
        if kind == "one":
            return [[part] for part in self.parts(inner, count)]
        if kind == "any":
            return [each for choice in inner for each in self.rows(choice, count)]
        if kind == "row":
            return self.side_by_side(inner, count)
        if kind == "some":
            return self.side_by_side([inner, ("many", inner)], count)
        found = [[]] if count == 0 else []
        if kind == "maybe":
            found += self.rows(inner, count)
        if kind == "many" and count > 0:
            found += [first + rest for taken in range(1, count + 1) for first in self.rows(inner, taken)
                      for rest in self.rows(pattern, count - taken)]
        return found

    def side_by_side(self, patterns, count):
        if not patterns:
            return [[]] if count == 0 else []
        return [first + rest for taken in range(count + 1) for first in self.rows(patterns[0], taken)
                for rest in self.side_by_side(patterns[1:], count - taken)]


def filled(written, inner):
    """A ferry's row with the star exchanged for these parts."""
    found = []
    for part in written:
        if isinstance(part, str):
            found.append(part)
        elif part[0] == "*":
            found.extend(inner)
        else:
            found.append((part[0], filled(part[1], inner)))
    return found


def followed(ferry, row):
    """What a row is ferried to, from the inmost parts on."""
    rules, found = dict(ferry), []
    for part in row:
        if isinstance(part, str):
            found.append(part)
        else:
            found += filled(rules.get(part[0], [(part[0], [star()])]), followed(ferry, part[1]))
    return found


def comes_in(ferry, form, paper, cutter):
    """Whether a paper arrives, by following the ferry and cutting the words of what comes of it."""
    came = followed(ferry, [paper])
    return len(came) == 1 and not isinstance(came[0], str) and wanted_faults(form, came[0], cutter) == []


def first_lost(form, ferry, other, limit, enough=3000):
    """The least size of a paper that does not arrive, or None; and up to which size all papers were tried."""
    papers, cutter, tried = AllPapers(form), Cutter(), 0
    for count in range(1, limit + 1):
        for paper in papers.papers(count):
            tried += 1
            if not comes_in(ferry, other, paper, cutter):
                return count, count
        if tried > enough:
            return None, count
    return None, limit


def random_pattern(chance, signs, loose):
    """A pattern in which each of these signs stands once; the looser, the more maybe, many and some."""
    if len(signs) < 2:
        pattern = one(signs[0]) if signs else NONE
    else:
        cut = chance.randint(0 if chance.random() < 0.1 else 1, len(signs) - 1)
        halves = [random_pattern(chance, signs[:cut], loose), random_pattern(chance, signs[cut:], loose)]
        pattern = (chance.choice(["row", "any"]), halves)
    if chance.random() < loose:
        pattern = (chance.choice(["maybe", "many", "some"]), pattern)
    return pattern


def random_form(chance, names, loose=0.25):
    rules = []
    for name in names:
        signs = chance.sample(names + ["#"], chance.randint(0, len(names) + 1))
        rules.append((name, random_pattern(chance, signs, loose)))
    return (chance.choice(names), rules)


def random_row(chance, names, count):
    """A row of at most so many parts in all."""
    found = []
    while count > 0 and chance.random() < 0.8:
        taken = chance.randint(1, count)
        if chance.random() < 0.3:
            found.append(chance.choice(["", "x", "*", "#"]))
            count -= 1
        else:
            found.append((chance.choice(names), random_row(chance, names, taken - 1)))
            count -= taken
    return found


def put_star(chance, row):
    """Puts a star somewhere into the row."""
    lists = lists_in(row)
    chosen = chance.choice(lists)
    chosen.insert(chance.randint(0, len(chosen)), star())


def random_ferry(chance, names):
    ferry = []
    for name in chance.sample(names, chance.randint(0, len(names))):
        row = random_row(chance, names, chance.randint(0, 5))
        if chance.random() < 0.75:
            put_star(chance, row)
        ferry.append((name, row))
    return ferry
