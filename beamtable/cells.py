"""The six cells: where light goes on that comes into them, and what they swallow."""

from beamtable.errors import NoCell
from beamtable.ratios import ONE, ZERO, minus, under

LETTERS = "abcdefghijklmnopqrstuvwxyz"
LONGEST_NAME = 8


def check_slant(slant):
    if slant not in (1, 3):
        raise NoCell("a slant is 1 or 3")


def check_share(share):
    if not under(ZERO, share) or not under(share, ONE):
        raise NoCell("a share is above 0 and below 1")


def check_name(name):
    if not 1 <= len(name) <= LONGEST_NAME or not all([sign in LETTERS for sign in name]):
        raise NoCell("a name has one to eight letters from a to z")


def other_slant(slant):
    return 4 - slant


class Cell:
    # What most cells do; those that do otherwise say so themselves.
    def leads(self, way):
        return [(way, ONE)]

    def swallows(self):
        return ZERO

    def turned(self):
        # A cell never changes, so one that a turn leaves as it is may stand for itself.
        return self


class Empty(Cell):
    def row(self):
        return ("empty",)


class Mirror(Cell):
    def __init__(self, slant):
        check_slant(slant)
        self.slant = slant

    def row(self):
        return ("mirror", self.slant)

    def leads(self, way):
        return [(way ^ self.slant, ONE)]

    def turned(self):
        return Mirror(other_slant(self.slant))


class Half(Cell):
    def __init__(self, slant, share):
        check_slant(slant)
        check_share(share)
        self.slant = slant
        self.share = share

    def row(self):
        return ("half", self.slant, self.share)

    def leads(self, way):
        thrown = (way ^ self.slant, self.share)
        straight = (way, minus(ONE, self.share))
        return sorted([thrown, straight])

    def turned(self):
        return Half(other_slant(self.slant), self.share)


class Filter(Cell):
    def __init__(self, share):
        check_share(share)
        self.share = share

    def row(self):
        return ("filter", self.share)

    def leads(self, way):
        return [(way, self.share)]

    def swallows(self):
        return minus(ONE, self.share)


class Wall(Cell):
    def row(self):
        return ("wall",)

    def leads(self, way):
        return []

    def swallows(self):
        return ONE


class Fibre(Cell):
    # The way stays the same; that it goes on from another place only the table can know.
    def __init__(self, name):
        check_name(name)
        self.name = name

    def row(self):
        return ("fibre", self.name)
