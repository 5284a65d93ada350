import copy
import itertools
import random
import unittest

from formferry.errors import NoName, NoPort, Stars, Taken, Twice
from formferry.ferries import joined
from formferry.judge import lost
from formferry.roads import Ports
from tests.samples import NONE, TEXT, either, followed, is_new, lists_in, many, maybe, names, one, random_form
from tests.samples import refusal_of, row, some, star

TWO_STARS = [("d", [star(), star()])]
TWO_RULES = [("c", []), ("c", [])]
REFUSED_FORMS = [(("a", [("a", NONE), ("a", NONE)]), (Twice, "a")), (("z", [("a", NONE)]), (NoName, "z")),
                 (("a", [("a", one("y"))]), (NoName, "y"))]
REFUSED_FERRIES = [(TWO_STARS, (Stars, "d")), (TWO_RULES, (Twice, "c"))]


def port(name):
    """A form whose one paper is a tuple of that name."""
    return (name, [(name, NONE)])


def to(begin, end):
    """A ferry that takes the one paper to the other."""
    return [(begin, [(end, [star()])])]


def harbour(count, lines):
    """So many ports a, b, c .., and ferries of name, begin and end that take every paper."""
    ports = Ports()
    for name in names(count):
        ports.add_port(name, port(name))
    for name, begin, end in lines:
        ports.add_ferry(name, begin, end, to(begin, end))
    return ports


def all_roads(lines, begin, end):
    """All roads that come to no port twice."""
    found = [[]] if begin == end else []
    waiting = [([], [begin])]
    while waiting:
        road, ports = waiting.pop()
        for name, left, reached in lines:
            if left == ports[-1] and reached not in ports:
                if reached == end:
                    found.append(road + [name])
                waiting.append((road + [name], ports + [reached]))
    return found


class TestRoads(unittest.TestCase):
    def check(self, ports, begin, end, wanted):
        told = ports.road(begin, end)
        self.assertEqual(told, wanted)
        if told is not None:
            told.append("changed")
            self.assertEqual(ports.road(begin, end), wanted)

    def test_no_ferry_one_and_more(self):
        ports = harbour(4, [("ab", "a", "b"), ("bc", "b", "c"), ("cd", "c", "d")])
        for name in "abcd":
            self.check(ports, name, name, [])
        self.check(ports, "a", "b", ["ab"])
        self.check(ports, "a", "c", ["ab", "bc"])
        self.check(ports, "a", "d", ["ab", "bc", "cd"])
        self.check(ports, "b", "d", ["bc", "cd"])
        self.check(ports, "b", "a", None)
        self.check(ports, "d", "a", None)

    def test_a_port_that_nothing_leads_to_and_a_circle(self):
        ports = harbour(4, [("x", "a", "b"), ("y", "b", "c"), ("z", "c", "a"), ("w", "d", "a"), ("v", "a", "a")])
        self.check(ports, "a", "d", None)
        self.check(ports, "c", "d", None)
        self.check(ports, "d", "d", [])
        self.check(ports, "a", "a", [])
        self.check(ports, "d", "c", ["w", "x", "y"])
        self.check(ports, "c", "b", ["z", "x"])
        self.check(ports, "b", "a", ["y", "z"])

    def test_the_fewest_ferries_ahead_of_the_names(self):
        ports = harbour(4, [("a", "a", "b"), ("b", "b", "c"), ("c", "c", "d"), ("z", "a", "d"), ("y", "a", "c")])
        self.check(ports, "a", "d", ["z"])
        self.check(ports, "a", "c", ["y"])
        self.check(ports, "b", "d", ["b", "c"])

    def test_the_first_in_the_order_of_names(self):
        """The first ferry's names are compared first, by the order of texts: z comes ahead of za."""
        self.check(harbour(2, [("z", "a", "b"), ("za", "a", "b"), ("zz", "a", "b")]), "a", "b", ["z"])
        self.check(harbour(2, [("zz", "a", "b"), ("za", "a", "b"), ("zb", "a", "b")]), "a", "b", ["za"])
        self.check(harbour(2, [("b", "a", "b"), ("ab", "a", "b"), ("abc", "a", "b")]), "a", "b", ["ab"])
        lines = [("m", "a", "b"), ("z", "b", "d"), ("n", "a", "c"), ("a", "c", "d")]
        for order in itertools.permutations(lines):
            self.check(harbour(4, order), "a", "d", ["m", "z"])
        lines = [("b", "a", "b"), ("c", "a", "c"), ("d", "c", "d"), ("e", "b", "d"), ("a", "d", "e"), ("f", "b", "e")]
        for order in itertools.permutations(lines):
            self.check(harbour(5, order), "a", "d", ["b", "e"])
            self.check(harbour(5, order), "a", "e", ["b", "f"])

    def test_a_ferry_of_the_same_port_in_two_roads(self):
        lines = [("f", "a", "b"), ("g", "a", "c"), ("h", "b", "d"), ("e", "c", "d"), ("k", "d", "e"), ("j", "d", "e")]
        for order in itertools.permutations(lines):
            self.check(harbour(5, order), "a", "e", ["f", "h", "j"])

    def test_ferries_that_do_not_take_every_paper(self):
        ports = Ports()
        ports.add_port("wide", ("a", [("a", many(TEXT))]))
        ports.add_port("narrow", ("a", [("a", maybe(TEXT))]))
        ports.add_port("bare", ("a", [("a", NONE)]))
        ports.add_ferry("stay", "wide", "narrow", [])
        self.check(ports, "wide", "narrow", None)
        ports.add_ferry("back", "narrow", "wide", [])
        self.check(ports, "narrow", "wide", ["back"])
        ports.add_ferry("empty", "wide", "bare", [("a", [("a", [])])])
        self.check(ports, "wide", "bare", ["empty"])
        self.check(ports, "narrow", "bare", ["back", "empty"])
        self.check(ports, "wide", "narrow", None)
        ports.add_ferry("up", "bare", "narrow", [])
        self.check(ports, "wide", "narrow", ["empty", "up"])
        # Shorter, but not for every paper.
        ports.add_ferry("aa", "narrow", "bare", [])
        ports.add_ferry("bb", "wide", "bare", [("a", [("b", [])])])
        self.check(ports, "narrow", "bare", ["back", "empty"])
        ports.add_ferry("cc", "narrow", "bare", [("a", [("a", [])])])
        self.check(ports, "narrow", "bare", ["cc"])

    def test_ferries_that_together_would_take_every_paper(self):
        """Each must take every paper of its port, also such as the one ahead never brings."""
        ports = Ports()
        ports.add_port("a", ("a", [("a", NONE)]))
        ports.add_port("b", ("a", [("a", maybe(TEXT))]))
        ports.add_port("c", ("a", [("a", NONE)]))
        ports.add_ferry("ab", "a", "b", [])
        ports.add_ferry("bc", "b", "c", [])
        self.check(ports, "a", "c", None)

    def test_forms_without_a_paper(self):
        ports = Ports()
        ports.add_port("none", ("a", [("a", one("a"))]))
        ports.add_port("some", port("b"))
        ports.add_ferry("out", "none", "some", [("a", ["x", "y"])])
        ports.add_ferry("in", "some", "none", [("b", [("a", [star()])])])
        self.check(ports, "none", "some", ["out"])
        self.check(ports, "some", "none", None)

    def test_ferries_and_ports_added_behind_a_first_asking(self):
        ports = harbour(2, [])
        self.check(ports, "a", "b", None)
        ports.add_port("c", port("c"))
        ports.add_ferry("x", "a", "c", to("a", "c"))
        self.check(ports, "a", "b", None)
        ports.add_ferry("y", "c", "b", to("c", "b"))
        self.check(ports, "a", "b", ["x", "y"])
        ports.add_ferry("z", "a", "b", to("a", "b"))
        self.check(ports, "a", "b", ["z"])
        ports.add_ferry("q", "a", "b", to("a", "b"))
        self.check(ports, "a", "b", ["q"])

    def test_names_of_ferries_that_ports_have_too(self):
        ports = harbour(3, [("a", "a", "b"), ("c", "b", "c"), ("b", "c", "a")])
        self.check(ports, "a", "c", ["a", "c"])
        self.check(ports, "b", "a", ["c", "b"])
        self.assertEqual(refusal_of(lambda: ports.add_ferry("a", "b", "c", [])), (Taken, "a"))

    def test_many_harbours(self):
        chance = random.Random(8)
        for _ in range(150):
            count = chance.randint(2, 8)
            lines = [(name, chance.choice(names(count)), chance.choice(names(count)))
                     for name in chance.sample(names(60), chance.randint(0, 12))]
            ports = harbour(count, lines)
            for begin in names(count):
                for end in names(count):
                    roads = all_roads(lines, begin, end)
                    wanted = min(roads, key=lambda road: (len(road), road)) if roads else None
                    self.assertEqual(ports.road(begin, end), wanted, (lines, begin, end))

    def test_many_forms_between_ports(self):
        chance = random.Random(9)
        told = {True: 0, False: 0}
        for _ in range(40):
            forms = [random_form(chance, names(2), 0.5) for _ in range(3)]
            ports = Ports()
            for name, form in zip("abc", forms):
                ports.add_port(name, form)
            lines, number = [], 0
            for begin, end in itertools.permutations(range(3), 2):
                ferry = [(forms[begin][0], [(forms[end][0], [star()])])]
                name = names(20)[number]
                number += 1
                ports.add_ferry(name, "abc"[begin], "abc"[end], ferry)
                arrive = lost(forms[begin], ferry, forms[end]) is None
                told[arrive] += 1
                if arrive:
                    lines.append((name, "abc"[begin], "abc"[end]))
            for begin, end in itertools.permutations("abc", 2):
                roads = all_roads(lines, begin, end)
                wanted = min(roads, key=lambda road: (len(road), road)) if roads else None
                self.assertEqual(ports.road(begin, end), wanted)
        self.assertGreater(min(told.values()), 20)


class TestLed(unittest.TestCase):
    def setUp(self):
        self.ports = Ports()
        self.ports.add_port("a", ("a", [("a", many(one("b"))), ("b", many(TEXT))]))
        self.ports.add_port("b", ("c", [("c", many(one("b"))), ("b", some(TEXT))]))
        self.ports.add_port("c", ("c", [("c", many(TEXT))]))
        self.first = [("a", [("c", [star()])]), ("b", [("b", ["x", star()])])]
        self.second = [("b", [star(), "y"]), ("d", [])]
        self.ports.add_ferry("one", "a", "b", copy.deepcopy(self.first))
        self.ports.add_ferry("two", "b", "c", copy.deepcopy(self.second))

    def check(self, begin, end, wanted):
        told = self.ports.led(begin, end)
        self.assertEqual(told, wanted)
        if told is not None:
            again = self.ports.led(begin, end)
            self.assertTrue(is_new(again, told))
            for each in lists_in(told):
                each.append("changed")
            self.assertEqual(self.ports.led(begin, end), wanted)

    def test_no_ferry(self):
        for name in "abc":
            self.check(name, name, [])

    def test_one_ferry(self):
        self.check("a", "b", self.first)
        self.check("b", "c", self.second)

    def test_two_ferries_joined(self):
        self.check("a", "c", [("a", [("c", [star()])]), ("b", ["x", star(), "y"]), ("d", [])])
        self.assertEqual(self.ports.led("a", "c"), joined(self.first, self.second))
        paper = ("a", [("b", ["1", "2"]), ("b", [])])
        self.assertEqual(followed(self.ports.led("a", "c"), [paper]),
                         followed(self.second, followed(self.first, [paper])))

    def test_none(self):
        self.check("b", "a", None)
        self.check("c", "a", None)

    def test_three_ferries_in_the_order_of_the_road(self):
        ports = harbour(4, [])
        ferries = [[("a", [("b", [star(), "1"])])], [("b", [("c", ["2", star()])])], [("c", [("d", [])])]]
        for name, begin, end, ferry in zip("zyx", "abc", "bcd", ferries):
            ports.add_ferry(name, begin, end, ferry)
        self.assertIsNone(ports.led("a", "d"))
        wider = Ports()
        for name in "abcd":
            wider.add_port(name, (name, [(name, many(TEXT))]))
        for name, begin, end, ferry in zip("zyx", "abc", "bcd", ferries):
            wider.add_ferry(name, begin, end, ferry)
        self.assertEqual(wider.led("a", "d"), joined(joined(ferries[0], ferries[1]), ferries[2]))
        self.assertEqual(wider.led("a", "c"), [("a", [("c", ["2", star(), "1"])]), ("b", [("c", ["2", star()])])])


class TestRefusals(unittest.TestCase):
    def setUp(self):
        self.ports = harbour(2, [("x", "a", "b")])

    def check(self, asked, wanted):
        """What is refused changes nothing."""
        self.assertEqual(refusal_of(asked), wanted)
        self.assertEqual(self.ports.road("a", "b"), ["x"])
        self.assertIsNone(self.ports.road("b", "a"))
        self.assertEqual(self.ports.led("a", "b"), to("a", "b"))
        self.assertEqual(refusal_of(lambda: self.ports.road("new", "new")), (NoPort, "new"))

    def test_ports(self):
        for form, wanted in REFUSED_FORMS:
            self.check(lambda: self.ports.add_port("new", form), wanted)
            self.check(lambda: self.ports.add_port("a", form), wanted)
        self.check(lambda: self.ports.add_port("a", port("a")), (Taken, "a"))
        self.check(lambda: self.ports.add_port("b", port("z")), (Taken, "b"))
        self.assertIsNone(self.ports.add_port("x", port("a")))
        self.assertEqual(refusal_of(lambda: self.ports.add_port("x", port("a"))), (Taken, "x"))

    def test_ferries(self):
        add = self.ports.add_ferry
        for ferry, wanted in REFUSED_FERRIES:
            for name, begin, end in itertools.product(["x", "y"], ["a", "p"], ["b", "q"]):
                self.check(lambda: add(name, begin, end, ferry), wanted)
        for name in ["x", "y"]:
            self.check(lambda: add(name, "p", "q", []), (NoPort, "p"))
            self.check(lambda: add(name, "p", "b", []), (NoPort, "p"))
            self.check(lambda: add(name, "a", "q", []), (NoPort, "q"))
            self.check(lambda: add(name, "x", "b", []), (NoPort, "x"))
        self.check(lambda: add("x", "a", "b", []), (Taken, "x"))
        self.check(lambda: add("x", "b", "a", to("b", "a")), (Taken, "x"))
        self.assertIsNone(add("y", "b", "a", to("b", "a")))
        self.assertEqual(self.ports.road("b", "a"), ["y"])

    def test_a_ferry_that_loses_papers_has_its_name_too(self):
        self.ports.add_ferry("y", "b", "a", [])
        self.check(lambda: self.ports.add_ferry("y", "b", "a", to("b", "a")), (Taken, "y"))

    def test_roads(self):
        for asked in [self.ports.road, self.ports.led]:
            self.check(lambda: asked("p", "q"), (NoPort, "p"))
            self.check(lambda: asked("p", "p"), (NoPort, "p"))
            self.check(lambda: asked("p", "a"), (NoPort, "p"))
            self.check(lambda: asked("a", "q"), (NoPort, "q"))
            self.check(lambda: asked("x", "b"), (NoPort, "x"))
        self.assertEqual(refusal_of(lambda: Ports().road("a", "a")), (NoPort, "a"))
        self.assertEqual(refusal_of(lambda: Ports().add_ferry("a", "b", "c", [])), (NoPort, "b"))

    def test_arguments_by_name(self):
        ports = Ports()
        self.assertIsNone(ports.add_port(name="a", form=port("a")))
        self.assertIsNone(ports.add_port(name="b", form=port("b")))
        self.assertIsNone(ports.add_ferry(name="x", begin="a", end="b", ferry=to("a", "b")))
        self.assertEqual(ports.road(begin="a", end="b"), ["x"])
        self.assertEqual(ports.led(begin="a", end="b"), to("a", "b"))


class TestWhatPortsKeep(unittest.TestCase):
    def test_what_was_handed_in_stays_and_may_be_changed_afterwards(self):
        wide = ("a", [("a", many(maybe(one("b")))), ("b", row(TEXT, maybe(one("a")), many(NONE)))])
        other = ("c", [("c", many(one("b"))), ("b", row(TEXT, maybe(one("c"))))])
        ferry = [("a", [("c", [star()])]), ("d", ["x", ("e", [("f", [star()])])])]
        kept = copy.deepcopy((wide, other, ferry))
        ports = Ports()
        ports.add_port("a", wide)
        ports.add_port("c", other)
        ports.add_ferry("x", "a", "c", ferry)
        self.assertEqual((wide, other, ferry), kept)
        for each in lists_in([wide, other, ferry]):
            each.clear()
        self.assertEqual(ports.road("a", "c"), ["x"])
        self.assertEqual(ports.led("a", "c"), kept[2])
        ports.add_ferry("y", "c", "a", [("c", [("a", [star()])])])
        ports.add_ferry("z", "c", "c", [("b", [])])
        self.assertEqual(ports.road("c", "a"), ["y"])
        self.assertEqual(ports.led("c", "a"), [("c", [("a", [star()])])])

    def test_ferries_laid_when_the_form_was_changed_between(self):
        """A port is what its form was when it was added."""
        rules = [("a", many(TEXT))]
        ports = Ports()
        ports.add_port("a", ("a", rules))
        rules[0] = ("a", NONE)
        ports.add_port("b", ("a", rules))
        rules.append(("b", NONE))
        ports.add_ferry("x", "a", "b", [])
        ports.add_ferry("y", "b", "a", [])
        self.assertIsNone(ports.road("a", "b"))
        self.assertEqual(ports.road("b", "a"), ["y"])

    def test_patterns_that_are_changed_afterwards(self):
        """A list within each sort of pattern, at two depths."""
        wraps = [lambda inner: inner, maybe, many, some,
                 lambda inner: row(TEXT, inner), lambda inner: either(TEXT, inner)]
        for outer in wraps:
            for wrap in wraps[:4]:
                for kind in ["row", "any"]:
                    listed = [one("b"), maybe(one("c"))]
                    form = ("a", [("a", outer(wrap((kind, listed)))), ("b", NONE), ("c", NONE)])
                    ports = Ports()
                    ports.add_port("kept", copy.deepcopy(form))
                    ports.add_port("changed", form)
                    listed[:] = [one("c"), one("b"), one("a")]
                    ports.add_ferry("x", "kept", "changed", [])
                    ports.add_ferry("y", "changed", "kept", [])
                    self.assertEqual(ports.road("kept", "changed"), ["x"], form)
                    self.assertEqual(ports.road("changed", "kept"), ["y"], form)

    def test_two_side_by_side(self):
        first, second = harbour(2, [("x", "a", "b")]), Ports()
        self.assertEqual(refusal_of(lambda: second.road("a", "b")), (NoPort, "a"))
        second.add_port("a", port("b"))
        second.add_port("b", port("a"))
        self.assertIsNone(second.road("a", "b"))
        second.add_ferry("x", "b", "a", to("a", "b"))
        self.assertEqual((first.road("a", "b"), first.road("b", "a")), (["x"], None))
        self.assertEqual((second.road("a", "b"), second.road("b", "a")), (None, ["x"]))
        first.add_ferry("y", "b", "a", to("b", "a"))
        self.assertIsNone(second.road("a", "b"))

    def test_asking_changes_nothing(self):
        ports = harbour(3, [("x", "a", "b"), ("y", "b", "c")])
        for _ in range(3):
            self.assertEqual(ports.road("a", "c"), ["x", "y"])
            self.assertEqual(ports.led("a", "c"), joined(to("a", "b"), to("b", "c")))
            self.assertIsNone(ports.road("c", "a"))
            self.assertIsNone(ports.led("c", "a"))


if __name__ == "__main__":
    unittest.main()
