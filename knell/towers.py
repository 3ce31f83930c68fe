"""Towers: bells with names, in the order in which they were hung."""

from knell.beats import beat, next_from, rings
from knell.errors import Clash, NoBell, NoName, Twice
from knell.meets import together


class Tower:

    def __init__(self):
        self.hung = {}

    def hang(self, name, first, gap=24):
        if name in self.hung:
            raise Twice(f"{name} hangs already")
        self.hung[name] = beat(first, gap)

    def take(self, name):
        if name not in self.hung:
            raise NoName(f"{name} doesn't hang here")
        return self.hung.pop(name)

    def bells(self):
        return list(self.hung.items())

    def next_together(self, moment=0):
        told = together(list(self.hung.values()))
        if told[0] == "clash":
            names = list(self.hung)
            raise Clash(names[told[1]], names[told[2]], told[3])
        return next_from(told[1], moment)

    def next_any(self, moment=0):
        if len(self.hung) == 0:
            raise NoBell("no bell hangs here")
        soonest = min([next_from(one, moment) for one in self.hung.values()])
        return (soonest, [name for name, one in self.hung.items() if rings(one, soonest)])
