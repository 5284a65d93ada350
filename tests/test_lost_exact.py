"""lost against another way to find the least size out, for forms too large to try all their papers: each pattern of
the second form is a machine that reads signs, and for each name it is asked what its parts cost that take a machine
from one state to another. It knows nothing of which signs may stand beside one another."""

import random
import unittest

from formferry.judge import lost
from formferry.papers import size
from tests.samples import Cutter, comes_in, either, many, names, one, random_form, random_row, put_star, star
from tests.samples import wanted_faults, NONE

NEVER = 10 ** 9


def frozen(pattern):
    if pattern[0] in ("row", "any"):
        return (pattern[0], tuple(frozen(inner) for inner in pattern[1]))
    return pattern if pattern[0] in ("none", "one") else (pattern[0], frozen(pattern[1]))


def opened(left):
    """All that can be left to be read when nothing is read: tuples of patterns, the first of them a sign; or ()."""
    found, waiting = set(), [left]
    while waiting:
        each = waiting.pop()
        if each in found:
            continue
        found.add(each)
        if each:
            (kind, inner), rest = (each[0] + (None,))[:2], each[1:]
            waiting += {
                "none": [rest],
                "one": [],
                "row": [inner + rest] if kind == "row" else [],
                "any": [(choice,) + rest for choice in inner] if kind == "any" else [],
                "maybe": [rest, (inner,) + rest],
                "many": [rest, (inner, ("many", inner)) + rest],
                "some": [(inner, ("many", inner)) + rest],
            }[kind]
    return frozenset(each for each in found if each == () or each[0][0] == "one")


class Machine:
    def __init__(self, pattern):
        self.begin = opened((frozen(pattern),))
        self.known = {}

    def read(self, state, signs):
        for sign in signs:
            if (state, sign) not in self.known:
                rests = [opened(left[1:]) for left in state if left and left[0][1] == sign]
                self.known[(state, sign)] = frozenset().union(*rests)
            state = self.known[(state, sign)]
        return state


class Costs:
    """What the parts of a name cost at the least that take the machine from a state to each other one."""

    def __init__(self, form, rows, machine, prices):
        self.patterns, self.rows, self.machine, self.prices = dict(form[1]), rows, machine, prices
        self.known = {}

    def settle(self, asked):
        """Asks until nothing changes any more; what is asked on the way is known by what was found so far."""
        while True:
            before = {key: dict(told) for key, told in self.known.items()}
            told = asked()
            for name, state in list(self.known):
                self.known[(name, state)] = self.look(name, state)
            if before == self.known:
                return told

    def part(self, sign, state):
        if sign == "#":
            return {self.machine.read(state, ["#"]): 1}
        return self.known.setdefault((sign, state), {})

    def look(self, name, state):
        signs = word_of(self.rows[name])
        if "*" not in signs:
            price = self.prices.get(name, NEVER)
            return {self.machine.read(state, signs): price} if price < NEVER else {}
        place = signs.index("*")
        return self.around(name, state, signs[:place], signs[place + 1:])

    def around(self, name, state, ahead, behind):
        found = {}
        for end, price in self.words(self.patterns[name], self.machine.read(state, ahead)).items():
            end = self.machine.read(end, behind)
            found[end] = min(found.get(end, NEVER), price + 1)
        return found

    def words(self, pattern, state):
        kind = pattern[0]
        if kind == "none":
            return {state: 0}
        if kind == "one":
            return dict(self.part(pattern[1], state))
        if kind == "any":
            return cheapest([self.words(inner, state) for inner in pattern[1]])
        if kind == "maybe":
            return cheapest([{state: 0}, self.words(pattern[1], state)])
        if kind == "row":
            found = {state: 0}
            for inner in pattern[1]:
                found = self.behind(found, inner)
            return found
        found = {state: 0} if kind == "many" else self.words(pattern[1], state)
        while True:
            wider = cheapest([found, self.behind(found, pattern[1])])
            if wider == found:
                return found
            found = wider

    def behind(self, found, pattern):
        return cheapest([{end: price + more for end, more in self.words(pattern, state).items()}
                         for state, price in found.items()])


def cheapest(tables):
    found = {}
    for table in tables:
        for end, price in table.items():
            found[end] = min(found.get(end, NEVER), price)
    return found


def word_of(row):
    return ["#" if isinstance(part, str) else part[0] for part in row]


def tuples_of(row):
    found = []
    for part in row:
        if not isinstance(part, str) and part[0] != "*":
            found += [part] + tuples_of(part[1])
    return found


def has_star(row):
    return "*" in word_of(row) or any("*" in word_of(part[1]) for part in tuples_of(row))


class Exact:
    def __init__(self, form, ferry, other):
        self.form, self.other, self.others = form, other, dict(other[1])
        given = dict(ferry)
        self.rows = {name: given.get(name, [(name, [star()])]) for name, _ in form[1]}
        self.prices = {name: price for name, price in self.all_prices().items() if price < NEVER}
        self.machines = {}

    def all_prices(self):
        """By a machine with a single state, in which all rows are opened."""
        every = many(either(NONE, *[one(sign) for sign in [name for name, _ in self.form[1]] + ["#"]]))
        machine = Machine(every)
        machine.read = lambda state, signs: ()
        costs = Costs(self.form, {name: [star()] for name in self.rows}, machine, {})
        costs.settle(lambda: [costs.part(name, ()) for name in self.rows])
        return {name: costs.known[(name, ())].get((), NEVER) for name in self.rows}

    def costs(self, name, pattern):
        if name not in self.machines:
            self.machines[name] = Costs(self.form, self.rows, Machine(pattern), self.prices)
        return self.machines[name]

    def not_fitting(self, costs, ways):
        return min([price for end, price in ways.items() if () not in end], default=NEVER)

    def written_fault(self, name, part):
        if part[0] not in self.others:
            return self.prices[name]
        signs = word_of(part[1])
        costs = self.costs(part[0], self.others[part[0]])
        begin = costs.machine.begin
        if "*" not in signs:
            return self.prices[name] if () not in costs.machine.read(begin, signs) else NEVER
        place = signs.index("*")
        ways = costs.settle(lambda: costs.around(name, begin, signs[:place], signs[place + 1:]))
        return self.not_fitting(costs, ways)

    def least(self):
        root = self.form[0]
        if root not in self.prices:
            return None
        faults = {name: min([self.written_fault(name, part) for part in tuples_of(self.rows[name])], default=NEVER)
                  for name in self.prices}
        for _ in faults:
            for name in faults:
                if has_star(self.rows[name]):
                    faults[name] = min(faults[name], 1 + self.one_bad(dict(self.form[1])[name], faults)[1])
        top = self.costs("", one(self.other[0]))
        top.settle(lambda: top.part(root, top.machine.begin))
        found = min(faults[root], self.not_fitting(top, top.known[(root, top.machine.begin)]))
        return found if found < NEVER else None

    def one_bad(self, pattern, faults):
        """The least size of a row whose word fits, and of one that has a fault in it."""
        kind = pattern[0]
        if kind == "none":
            return 0, NEVER
        if kind == "one":
            if pattern[1] == "#":
                return 1, NEVER
            return self.prices.get(pattern[1], NEVER), faults.get(pattern[1], NEVER)
        if kind in ("row", "any"):
            found = [self.one_bad(inner, faults) for inner in pattern[1]]
            if kind == "any":
                return min(each[0] for each in found), min(each[1] for each in found)
            total = min(sum(each[0] for each in found), NEVER)
            return total, min(NEVER, min(sum(other[0] for place, other in enumerate(found) if place != bad) + each[1]
                                         for bad, each in enumerate(found)))
        plain, bad = self.one_bad(pattern[1], faults)
        return (plain if kind == "some" else 0), bad


def larger_case(chance):
    known = names(chance.choice([3, 4, 5, 6, 8, 10]))
    form = random_form(chance, known, chance.choice([0.1, 0.3, 0.5]))
    root, rules = random_form(chance, known, 0.7)
    narrow = chance.sample(known, chance.choice([0, 1, 1, 2]))
    wide = []
    for name, pattern in rules:
        left_out = chance.choice(known) if chance.random() < 0.2 else None
        signs = [one(sign) for sign in known + ["#"] if sign != left_out]
        wide.append((name, pattern if name in narrow else many(either(NONE, *signs))))
    ferry = [(form[0], [(root, [star()])])]
    for name in known:
        if name != form[0] and chance.random() < 0.8:
            written = random_row(chance, known, chance.choice([0, 0, 1, 2]))
            if chance.random() < 0.3:
                put_star(chance, written)
            elif chance.random() < 0.9:
                written.insert(chance.randint(0, len(written)), star())
            ferry.append((name, written))
    return form, ferry, (root, wide)


class TestExact(unittest.TestCase):
    def test_larger_forms(self):
        chance = random.Random(17)
        sizes = {}
        for _ in range(400):
            form, ferry, other = larger_case(chance)
            wanted = Exact(form, ferry, other).least()
            with self.subTest(form=form, ferry=ferry, other=other):
                paper = lost(form, ferry, other)
                self.assertEqual(None if paper is None else size([paper]), wanted)
                if paper is not None:
                    cutter = Cutter()
                    self.assertEqual(wanted_faults(form, paper, cutter), [])
                    self.assertFalse(comes_in(ferry, other, paper, cutter))
            sizes[wanted] = sizes.get(wanted, 0) + 1
        self.assertGreater(len([each for each in sizes if each is not None and each > 6]), 3, sizes)


if __name__ == "__main__":
    unittest.main()
