"""Roads: ports are forms with names, and ferries with names lie between them."""

from formferry.errors import NoPort, Taken
from formferry.ferries import carried, joined, look_ferry
from formferry.forms import look
from formferry.judge import all_arrive
from formferry.patterns import copied


# What is kept must not change with what was handed in.
def copied_form(form):
    return (form[0], [(name, copied(pattern)) for name, pattern in form[1]])


def copied_ferry(ferry):
    return [(name, carried({}, row)) for name, row in ferry]


class Ports:
    def __init__(self):
        self.forms = {}
        self.lines = {}

    def add_port(self, name, form):
        look(form)
        if name in self.forms:
            raise Taken(name)
        self.forms[name] = copied_form(form)

    # Neither ports nor ferries ever change, so it is judged once whether the ferry takes every paper.
    def add_ferry(self, name, begin, end, ferry):
        look_ferry(ferry)
        self.look_port(begin)
        self.look_port(end)
        if name in self.lines:
            raise Taken(name)
        taking_all = all_arrive(self.forms[begin], ferry, self.forms[end])
        self.lines[name] = (begin, end, copied_ferry(ferry), taking_all)

    def look_port(self, name):
        if name not in self.forms:
            raise NoPort(name)

    # Ports are left in the order of their roads, by the ferries in the order of names: so the first road that
    # is found to a port has the fewest ferries, and of those with as few it is the first one.
    def road(self, begin, end):
        self.look_port(begin)
        self.look_port(end)
        found = {begin: []}
        waiting = [begin]
        while waiting:
            port = waiting.pop(0)
            for name in sorted(self.lines):
                line = self.lines[name]
                if line[0] == port and line[3] and line[1] not in found:
                    found[line[1]] = found[port] + [name]
                    waiting.append(line[1])
        return found.get(end)

    def led(self, begin, end):
        names = self.road(begin, end)
        if names is None:
            return None
        told = []
        for name in names:
            told = joined(told, self.lines[name][2])
        return told
