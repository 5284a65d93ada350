"""The promise over the whole: what is judged, joined, led, written and read holds together."""

import copy
import random
import unittest

from formferry.ferries import arrives, ferried, joined
from formferry.forms import is_paper, least, prices
from formferry.judge import alike, lost, within
from formferry.papers import size
from formferry.roads import Ports
from formferry.texts import read_ferry, read_form, read_paper, show_ferry, show_form, shown
from tests.samples import NONE, AllPapers, either, many, names, one, random_ferry, random_form, star


def wide_form(chance, known):
    """A form that lets nearly all words through, but for one of its names."""
    root, rules = random_form(chance, known, 0.6)
    narrow = chance.choice(known)
    every = [one(sign) for sign in known + ["#"]]
    return (root, [rule if rule[0] == narrow else (rule[0], many(either(NONE, *every))) for rule in rules])


def crossing(chance, form, other, known):
    ferry = [rule for rule in random_ferry(chance, known) if rule[0] != form[0]]
    return ferry + [(form[0], [(other[0], [star()])])]


class TestWhole(unittest.TestCase):
    def test_what_is_lost_is_a_paper_that_does_not_arrive(self):
        chance = random.Random(31)
        for _ in range(500):
            known = names(chance.choice([2, 3, 5]))
            form, other = random_form(chance, known, 0.4), wide_form(chance, known)
            ferry = crossing(chance, form, other, known)
            paper = lost(form, ferry, other)
            if paper is not None:
                self.assertTrue(is_paper(form, paper))
                self.assertFalse(arrives(ferry, other, paper))
                self.assertGreaterEqual(size([paper]), prices(form)[form[0]])
            elif form[0] in prices(form):
                self.assertTrue(arrives(ferry, other, least(form, form[0])))

    def test_written_read_again_and_judged(self):
        chance = random.Random(32)
        told = {True: 0, False: 0}
        for _ in range(300):
            known = names(chance.choice([2, 3, 4]))
            form, other = random_form(chance, known, 0.4), wide_form(chance, known)
            ferry = crossing(chance, form, other, known)
            paper = lost(form, ferry, other)
            again = read_form(show_form(form)), read_ferry(show_ferry(ferry)), read_form(show_form(other))
            self.assertEqual(again, (form, ferry, other))
            self.assertEqual(lost(*again), paper)
            self.assertIs(alike(again[0], form), True)
            self.assertEqual(within(form, again[2]), within(form, other))
            if paper is not None:
                self.assertEqual(read_paper(shown(paper)), paper)
                self.assertFalse(arrives(again[1], again[2], read_paper(shown(paper))))
            told[paper is None] += 1
        self.assertGreater(min(told.values()), 50, told)

    def test_two_that_always_arrive_always_arrive_joined(self):
        chance = random.Random(33)
        both = 0
        for _ in range(1500):
            known = names(chance.choice([2, 3]))
            forms = [random_form(chance, known, 0.4), wide_form(chance, known), wide_form(chance, known)]
            ferries = [crossing(chance, forms[place], forms[place + 1], known) for place in range(2)]
            if all(lost(forms[place], ferries[place], forms[place + 1]) is None for place in range(2)):
                both += forms[0][0] in prices(forms[0])
                self.assertIsNone(lost(forms[0], joined(*ferries), forms[2]), (forms, ferries))
        self.assertGreater(both, 50)

    def test_a_paper_that_the_joined_one_loses_is_lost_by_one_of_them(self):
        chance = random.Random(34)
        lost_ones = 0
        for _ in range(600):
            known = names(chance.choice([2, 3]))
            forms = [random_form(chance, known, 0.4), wide_form(chance, known), wide_form(chance, known)]
            first, second = [crossing(chance, forms[place], forms[place + 1], known) for place in range(2)]
            paper = lost(forms[0], joined(first, second), forms[2])
            if paper is not None:
                lost_ones += 1
                between = ferried(first, [paper])
                arrived = arrives(first, forms[1], paper)
                self.assertFalse(arrived and arrives(second, forms[2], between[0]))
                self.assertEqual(ferried(second, between), ferried(joined(first, second), [paper]))
                if arrived:
                    self.assertIsNotNone(lost(forms[1], second, forms[2]))
        self.assertGreater(lost_ones, 100)

    def test_the_ferry_of_a_road_takes_every_paper(self):
        chance = random.Random(35)
        led_ones = 0
        for _ in range(120):
            known = names(2)
            forms = {name: wide_form(chance, known) for name in "abcd"}
            ports = Ports()
            for name, form in forms.items():
                ports.add_port(name, form)
            for number, name in enumerate(names(12)):
                begin, end = chance.sample("abcd", 2)
                ports.add_ferry(name, begin, end, crossing(chance, forms[begin], forms[end], known))
            for begin in "abcd":
                for end in "abcd":
                    ferry = ports.led(begin, end)
                    self.assertEqual(ferry is None, ports.road(begin, end) is None)
                    if ferry is not None:
                        led_ones += len(ports.road(begin, end)) > 1
                        self.assertIsNone(lost(forms[begin], ferry, forms[end]))
                        for count in range(1, 4):
                            for paper in AllPapers(forms[begin]).papers(count):
                                self.assertTrue(arrives(ferry, forms[end], paper))
        self.assertGreater(led_ones, 20)

    def test_nothing_that_is_handed_in_is_changed(self):
        chance = random.Random(36)
        for _ in range(100):
            known = names(3)
            form, other = random_form(chance, known, 0.4), wide_form(chance, known)
            ferry = crossing(chance, form, other, known)
            given = copy.deepcopy((form, ferry, other))
            ports = Ports()
            ports.add_port("a", form)
            ports.add_port("b", other)
            ports.add_ferry("c", "a", "b", ferry)
            ports.led("a", "b")
            lost(form, ferry, other)
            alike(form, other)
            show_form(form)
            show_ferry(ferry)
            self.assertEqual((form, ferry, other), given)


if __name__ == "__main__":
    unittest.main()
