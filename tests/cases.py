"""What several test files ask in the same way."""

import unittest
from math import gcd

from beamtable.cells import Empty


def empties(width, height):
    return [[Empty() for _ in range(width)] for _ in range(height)]


class Case(unittest.TestCase):
    def check_refused(self, kind, deed, *given):
        """Refused with this very class, not with one above or beside it."""
        with self.assertRaises(kind) as taken:
            deed(*given)
        self.assertIs(type(taken.exception), kind)

    def check_fraction(self, told):
        self.assertIs(type(told), tuple)
        self.assertEqual([type(number) for number in told], [int, int])
        self.assertGreaterEqual(told[1], 1)
        self.assertEqual(gcd(told[0], told[1]), 1)

    def check_light(self, light):
        self.assertIs(type(light), list)
        passes = []
        for pair in light:
            self.assertIs(type(pair), tuple)
            self.assertEqual(len(pair), 2)
            self.assertIs(type(pair[0]), tuple)
            self.assertEqual([type(part) for part in pair[0]], [int, int, int])
            self.check_fraction(pair[1])
            self.assertGreater(pair[1][0], 0)
            passes.append(pair[0])
        self.assertEqual(passes, sorted(set(passes)))

    def check_own_list(self, ask):
        """The list is told anew each time: whatever is done to it, the next one is as the first."""
        told = ask()
        self.assertIs(type(told), list)
        kept = list(told)
        told.clear()
        told.append("spoiled")
        self.assertEqual(ask(), kept)
