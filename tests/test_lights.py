import unittest
from fractions import Fraction
from itertools import permutations
from random import Random

from beamtable.cells import Empty, Fibre, Filter, Half, Mirror, Wall
from beamtable.errors import NoPass, NoStrength, Ring
from beamtable.lights import is_caught, outcome, reached, strengths
from beamtable.passes import all_passes, inlets, outlets
from beamtable.tables import Table
from beamtable.texts import read_table
from tests.cases import Case, empties
from tests.reckoned import (
    LONG, Reckoned, random_lamps, random_strength, random_table, ringing_tables, sample_tables, told, told_light,
)

EAST, NORTH, WEST, SOUTH = 0, 1, 2, 3
ALL = (1, 1)
NOTHING = (0, 1)
FAR = 10 ** 30
NO_PASSES = ((5, 5, EAST), (-1, 0, EAST), (4, 0, WEST), (0, 2, NORTH), (0, 0, 4), (0, 0, -1), (FAR, 0, EAST))

RING = "/\\\n\\/"
RING_EAST = [(0, 0, NORTH), (0, 1, WEST), (1, 0, EAST), (1, 1, SOUTH)]
RING_WEST = [(0, 0, WEST), (0, 1, SOUTH), (1, 0, NORTH), (1, 1, EAST)]
# Round its one half mirror light comes back with the share that is thrown; the rest goes out.
HALF_RING = "a\\\n\\/\n\na half / 1/3"
# Two rings that touch in a half mirror: what one of them does not keep goes into the other.
EIGHT = "/\\.\n\\a\\\n.\\/\n\na half / 1/3"
FILTERED_RING = "/a\\\n\\./\n\na filter 2/5"
TWO_RINGS = "/\\/\\\n\\/\\/"


def one(p, strength=ALL):
    return [(p, strength)]


def ring_told(table, lamps, ask=strengths):
    try:
        ask(table, lamps)
    except Ring as refusal:
        return refusal.ring
    return None


def free_passes(table):
    reckoned = Reckoned(table)
    return [p for p in reckoned.passes() if not reckoned.caught(p)]


class ReachedPasses(Case):
    def test_from_no_lamp(self):
        self.assertEqual(reached(Table(empties(2, 2)), []), [])
        self.assertEqual(reached(read_table(RING), []), [])

    def test_from_one(self):
        table = Table(empties(3, 2))
        self.assertEqual(reached(table, one((1, 1, WEST))), [(-1, 1, WEST), (0, 1, WEST), (1, 1, WEST)])
        self.assertEqual(reached(table, one((1, 0, SOUTH))), [(1, 0, SOUTH), (1, 1, SOUTH), (1, 2, SOUTH)])

    def test_from_an_outlet_and_into_a_wall(self):
        table = Table([[Empty(), Wall()]])
        self.assertEqual(reached(table, one((-1, 0, WEST))), [(-1, 0, WEST)])
        self.assertEqual(reached(table, one((0, 0, EAST))), [(0, 0, EAST), (1, 0, EAST)])
        self.assertEqual(reached(table, one((1, 0, NORTH))), [(1, 0, NORTH)])

    def test_from_several_each_once(self):
        table = Table(empties(3, 1))
        lamps = [((2, 0, EAST), (1, 2)), ((0, 0, EAST), (7, 1)), ((1, 0, NORTH), ALL), ((2, 0, EAST), (1, 3))]
        asked = [(0, 0, EAST), (1, -1, NORTH), (1, 0, EAST), (1, 0, NORTH), (2, 0, EAST), (3, 0, EAST)]
        for order in permutations(lamps):
            self.assertEqual(reached(table, list(order)), asked)

    def test_through_a_half_a_filter_and_a_fibre(self):
        table = read_table("fab\n..a\n\na half \\ 1/4\nb fibre x\nf fibre x")
        self.assertEqual(reached(table, one((0, 0, EAST))), [(0, 0, EAST), (3, 0, EAST)])
        self.assertEqual(reached(table, one((2, 0, EAST))), [
            (1, 0, EAST), (1, 1, SOUTH), (1, 2, SOUTH), (2, 0, EAST),
        ])
        table = read_table("af\n\na filter 1/9\nf half / 1/4")
        self.assertEqual(reached(table, one((0, 0, EAST))), [(0, 0, EAST), (1, -1, NORTH), (1, 0, EAST), (2, 0, EAST)])

    def test_round_a_ring(self):
        self.assertEqual(reached(read_table(RING), one((1, 1, SOUTH))), RING_EAST)
        self.assertEqual(reached(read_table(HALF_RING), one((1, 1, SOUTH))), sorted(RING_EAST + [(0, -1, NORTH)]))
        self.assertEqual(reached(Table([[Fibre("x"), Fibre("x")]]), one((1, 0, EAST))), [(1, 0, EAST)])

    def test_sorted_as_numbers(self):
        told_passes = reached(Table(empties(16, 16)), one((0, 11, EAST)) + one((3, 15, NORTH)))
        self.assertEqual(told_passes, sorted(told_passes))
        self.assertEqual(len(told_passes), 34)

    def test_everywhere(self):
        random = Random(1)
        for table in sample_tables() + ringing_tables():
            reckoned = Reckoned(table)
            passes = reckoned.passes()
            for p in passes:
                self.assertEqual(reached(table, one(p)), sorted(reckoned.reach([p])))
            lamps = random_lamps(random, passes, 6)
            self.assertEqual(reached(table, lamps), sorted(reckoned.reach([p for p, _ in lamps])))

    def test_refused_as_lamps_are(self):
        table = Table(empties(3, 2))
        for p in NO_PASSES:
            self.check_refused(NoPass, reached, table, one(p))
            self.check_refused(NoPass, reached, table, one(p, NOTHING))
            self.check_refused(NoPass, reached, table, one((0, 0, EAST)) + one(p))
            self.check_refused(NoStrength, reached, table, one((0, 0, EAST), (-1, 2)) + one(p))
        for strength in (NOTHING, (-1, 1), (-1, LONG)):
            self.check_refused(NoStrength, reached, table, one((0, 0, EAST), strength))
            self.check_refused(NoStrength, reached, table, one((1, 0, EAST)) + one((0, 0, EAST), strength))
            self.check_refused(NoPass, reached, table, one((5, 5, EAST)) + one((0, 0, EAST), strength))

    def test_the_list_is_the_askers_own_and_lamps_stay(self):
        lamps = [((1, 0, NORTH), ALL), ((0, 0, EAST), (7, 1))]
        kept = list(lamps)
        self.check_own_list(lambda: reached(Table(empties(3, 1)), lamps))
        self.assertEqual(lamps, kept)
        none = []
        reached(Table(empties(1, 1)), none).append("spoiled")
        self.assertEqual(none, [])


class CaughtPasses(Case):
    def check_caught(self, text, caught):
        table = read_table(text)
        self.assertEqual([p for p in all_passes(table) if is_caught(table, p)], sorted(caught))

    def test_a_ring_of_mirrors(self):
        self.check_caught(RING, RING_EAST + RING_WEST)
        table = read_table(RING)
        self.assertIs(is_caught(table, (1, 0, EAST)), True)
        self.assertIs(is_caught(table, (0, 0, EAST)), False)

    def test_a_wide_ring(self):
        table = read_table("/..\\\n....\n\\../")
        self.assertEqual(len([p for p in all_passes(table) if is_caught(table, p)]), 20)
        self.assertTrue(is_caught(table, (3, 1, SOUTH)))
        self.assertFalse(is_caught(table, (1, 1, SOUTH)))

    def test_a_ring_through_fibres(self):
        self.check_caught("aa\n\na fibre x", [(0, 0, WEST), (1, 0, EAST)])
        self.check_caught("a.a\n\na fibre x", [(0, 0, WEST), (1, 0, EAST), (1, 0, WEST), (2, 0, EAST)])
        self.check_caught("a\n.\na\n\na fibre x", [(0, 0, NORTH), (0, 1, NORTH), (0, 1, SOUTH), (0, 2, SOUTH)])

    def test_a_half_whose_other_way_leads_out(self):
        self.check_caught(HALF_RING, [])

    def test_a_half_whose_other_way_leads_into_a_ring(self):
        table = read_table(EIGHT)
        caught = [p for p in all_passes(table) if is_caught(table, p)]
        self.assertEqual(len(caught), 16)
        self.assertEqual([p for p in all_passes(table) if p[:2] == (1, 1)], [p for p in caught if p[:2] == (1, 1)])

    def test_a_half_whose_other_ring_loses(self):
        self.check_caught(EIGHT.replace(".\\/", ".\\#"), [])
        self.check_caught(EIGHT.replace(".\\/", ".\\b") + "\nb filter 9/10", [])
        # The first ring alone is closed, and it has no half mirror.
        self.check_caught("/\\.\n\\/\\\n.\\#", RING_EAST + RING_WEST)

    def test_a_ring_with_a_filter(self):
        self.check_caught(FILTERED_RING, [])
        self.check_caught("afa\n\na fibre x\nf filter 1/2", [])

    def test_a_ring_beside_a_wall(self):
        self.check_caught("/\\#\n\\/#\n###", RING_EAST + RING_WEST)
        self.check_caught("a#a\n\na fibre x", [])

    def test_outlets_walls_and_filters_themselves(self):
        for text in (".", "#", "a\n\na filter 1/2", "a\n\na half / 1/2", "/"):
            self.check_caught(text, [])

    def test_everywhere(self):
        found = 0
        for table in sample_tables() + ringing_tables():
            reckoned = Reckoned(table)
            for p in reckoned.passes():
                self.assertIs(is_caught(table, p), reckoned.caught(p))
                found += reckoned.caught(p)
        self.assertGreater(found, 500)

    def test_no_pass(self):
        for table in (Table(empties(3, 2)), read_table(RING)):
            for p in NO_PASSES:
                with self.subTest(p):
                    self.check_refused(NoPass, is_caught, table, p)


class Strengths(Case):
    def check_strengths(self, text, lamps, asked):
        table = read_table(text)
        self.assertEqual(strengths(table, lamps), sorted(asked))

    def test_no_lamps(self):
        for text in (".", RING, EIGHT):
            self.check_strengths(text, [], [])

    def test_straight_on(self):
        self.check_strengths("..", one((0, 0, EAST), (2, 3)), [
            ((0, 0, EAST), (2, 3)), ((1, 0, EAST), (2, 3)), ((2, 0, EAST), (2, 3)),
        ])

    def test_without_half_mirrors(self):
        self.check_strengths("a\\\n.#\n\na filter 2/5", one((0, 0, EAST), (5, 1)), [
            ((0, 0, EAST), (5, 1)), ((1, 0, EAST), (2, 1)), ((1, 1, SOUTH), (2, 1)),
        ])
        self.check_strengths("aba\n\na fibre x\nb filter 1/2", one((0, 0, EAST)), [
            ((0, 0, EAST), ALL), ((3, 0, EAST), ALL),
        ])

    def test_lamps_one_behind_the_other(self):
        lamps = [((1, 0, EAST), (1, 3)), ((0, 0, EAST), (1, 2)), ((2, 0, EAST), (1, 6)), ((1, 0, EAST), (1, 3))]
        self.check_strengths(".a.\n\na filter 1/2", lamps, [
            ((0, 0, EAST), (1, 2)), ((1, 0, EAST), (7, 6)), ((2, 0, EAST), (3, 4)), ((3, 0, EAST), (3, 4)),
        ])

    def test_with_one_half_mirror(self):
        self.check_strengths("a\n\na half / 1/3", one((0, 0, EAST)), [
            ((0, 0, EAST), ALL), ((0, -1, NORTH), (1, 3)), ((1, 0, EAST), (2, 3)),
        ])
        # Both into one half mirror: each way out has its part of both.
        self.check_strengths("a\n\na half \\ 1/4", [((0, 0, EAST), ALL), ((0, 0, SOUTH), (2, 1))], [
            ((0, 0, EAST), ALL), ((0, 0, SOUTH), (2, 1)), ((0, 1, SOUTH), (7, 4)), ((1, 0, EAST), (5, 4)),
        ])

    def test_a_half_mirror_in_its_own_ring(self):
        self.check_strengths(HALF_RING, one((0, 0, EAST)), [((0, 0, EAST), ALL), ((0, -1, NORTH), ALL)] + [
            (p, ALL) for p in RING_EAST
        ])

    def test_a_lamp_within_a_ring_that_loses(self):
        self.check_strengths(HALF_RING, one((1, 1, SOUTH)), [
            ((1, 1, SOUTH), (3, 2)), ((0, 1, WEST), (3, 2)), ((0, 0, NORTH), (3, 2)), ((1, 0, EAST), (1, 2)),
            ((0, -1, NORTH), ALL),
        ])
        self.check_strengths(FILTERED_RING, one((2, 0, EAST)), [
            ((2, 0, EAST), (5, 3)), ((2, 1, SOUTH), (5, 3)), ((1, 1, WEST), (5, 3)), ((0, 1, WEST), (5, 3)),
            ((0, 0, NORTH), (5, 3)), ((1, 0, EAST), (5, 3)),
        ])
        self.check_strengths(FILTERED_RING, one((2, 0, EAST)) + one((1, 1, WEST)), [
            ((2, 0, EAST), (7, 3)), ((2, 1, SOUTH), (7, 3)), ((1, 1, WEST), (10, 3)), ((0, 1, WEST), (10, 3)),
            ((0, 0, NORTH), (10, 3)), ((1, 0, EAST), (10, 3)),
        ])
        self.check_strengths("afa\n\na fibre x\nf filter 3/4", one((1, 0, EAST)), [
            ((1, 0, EAST), (4, 1)), ((2, 0, EAST), (3, 1)),
        ])

    def test_half_mirrors_that_send_light_to_one_another(self):
        # Between the two corners light goes to and fro; each time round it is thrown twice.
        text = "a\\\n\\b\n\na half / 1/3\nb half / 1/4"
        inner = Fraction(2, 3) / (1 - Fraction(1, 12))
        self.check_strengths(text, one((0, 0, EAST)), [
            ((0, 0, EAST), ALL), ((1, 0, EAST), told(inner)), ((1, 1, SOUTH), told(inner)),
            ((0, 1, WEST), told(inner / 4)), ((0, 0, NORTH), told(inner / 4)), ((1, 2, SOUTH), told(inner * 3 / 4)),
            ((0, -1, NORTH), told(Fraction(1, 3) + inner / 6)),
        ])

    def test_several_lamps_on_one_pass(self):
        lamps = [((0, 0, EAST), (1, 6)), ((0, 0, EAST), (1, 3))]
        table = read_table(HALF_RING)
        self.assertEqual(strengths(table, lamps), strengths(table, one((0, 0, EAST), (1, 2))))

    def test_lamps_on_outlets(self):
        self.check_strengths(".", one((-1, 0, WEST), (3, 7)), [((-1, 0, WEST), (3, 7))])
        self.check_strengths("..", one((0, 0, WEST)) + one((-1, 0, WEST), (3, 7)), [
            ((-1, 0, WEST), (10, 7)), ((0, 0, WEST), ALL),
        ])
        # A ring that loses nothing takes no harm from light beside it.
        self.check_strengths(RING, one((2, 0, EAST)), [((2, 0, EAST), ALL)])
        self.check_strengths(RING, one((0, 0, EAST)), [((0, -1, NORTH), ALL), ((0, 0, EAST), ALL)])

    def test_half_mirrors_that_no_lamp_reaches(self):
        self.check_strengths(EIGHT, one((2, 0, EAST)), [((2, 0, EAST), ALL), ((3, 0, EAST), ALL)])

    def test_long_shares_and_strengths(self):
        self.check_strengths("a\\\n\\/\n\na half / 1/" + str(LONG), one((1, 0, EAST), (LONG - 1, 1)), [
            (p, (LONG, 1)) for p in RING_EAST
        ] + [((0, -1, NORTH), (LONG - 1, 1))])

    def test_in_any_order(self):
        table = read_table(HALF_RING)
        lamps = [((1, 0, EAST), (1, 2)), ((0, 0, WEST), (3, 1)), ((1, 0, EAST), (1, 3)), ((0, 1, SOUTH), (1, 5))]
        asked = strengths(table, lamps)
        for order in permutations(lamps):
            self.assertEqual(strengths(table, list(order)), asked)


class StrengthsAll(Case):
    def check_balance(self, table, lamps):
        """Each pass has what its lamps give it and what comes to it by shares, and none is lit but those reached."""
        reckoned = Reckoned(table)
        light = strengths(table, lamps)
        self.check_light(light)
        self.assertEqual(light, told_light(reckoned.arrived(lamps, light)))
        self.assertEqual([p for p, _ in light], sorted(reckoned.reach([p for p, _ in lamps])))

    def test_from_every_pass(self):
        for table in sample_tables() + ringing_tables()[::3]:
            for p in free_passes(table):
                self.check_balance(table, one(p, (3, 2)))

    def test_from_several(self):
        random = Random(2)
        for table in sample_tables() + ringing_tables():
            passes = free_passes(table)
            for most in (3, 8, 40):
                self.check_balance(table, random_lamps(random, passes, most))

    def test_up_to_twelve_half_mirrors(self):
        random = Random(3)
        for width, height in ((2, 2), (3, 2), (2, 5), (4, 3), (12, 1), (1, 12)):
            rows = empties(width, height)
            for y in range(height):
                for x in range(width):
                    rows[y][x] = Half(random.choice((1, 3)), (random.randrange(1, 97), 97))
            table = Table(rows)
            self.check_balance(table, random_lamps(random, all_passes(table), 5) + one((0, 0, EAST)))

    def test_twelve_half_mirrors_in_a_ring(self):
        # Fibres take round whatever would leave; one cell alone loses light.
        rows = [[Half(1 + 2 * (x * y % 2), told(Fraction(x + 1, x + y + 3))) for x in range(4)] for y in range(3)]
        across = [Fibre("x" + letter) for letter in "abcd"]
        table = [[Empty()] + across + [Empty()]]
        for row, letter in zip(rows, "abc"):
            table.append([Fibre("y" + letter)] + row + [Fibre("y" + letter)])
        table.append([Empty()] + across + [Empty()])
        lossless = Table(table)
        self.assertEqual(len(ring_told(lossless, one((2, 2, EAST)))), 62)
        table[1][0] = table[1][5] = Filter((1, 3))
        self.check_balance(Table(table), one((2, 2, EAST)) + one((1, 3, NORTH), (1, 7)))

    def test_the_largest_table(self):
        random = Random(4)
        rows = [[random.choice((Empty(), Mirror(1), Mirror(3))) for _ in range(16)] for _ in range(16)]
        for number, place in enumerate(random.sample(range(256), 40)):
            share = (random.randrange(1, 12), 13)
            cells = [Half(1 + number % 2 * 2, share), Filter(share), Fibre("abcdefghij"[number % 10])]
            rows[place // 16][place % 16] = cells[(number >= 12) + (number >= 20)]
        table = Table(rows)
        passes = free_passes(table)
        lamps = [(p, random_strength(random)) for p in random.sample(passes, 300)]
        self.check_balance(table, lamps)

    def test_there_is_light_wherever_no_lamp_is_caught(self):
        random = Random(5)
        for table in ringing_tables():
            reckoned = Reckoned(table)
            lamps = random_lamps(random, reckoned.passes(), 3)
            caught = sorted(p for p, _ in lamps if reckoned.caught(p))
            if caught:
                self.assertEqual(ring_told(table, lamps), sorted(reckoned.reach([caught[0]])))
            else:
                self.check_balance(table, lamps)

    def test_light_from_outside_never_comes_into_a_ring(self):
        for table in sample_tables() + ringing_tables():
            reckoned = Reckoned(table)
            for p in free_passes(table):
                self.assertFalse([q for q in reached(table, one(p)) if reckoned.caught(q)])

    def test_what_is_handed_in_stays(self):
        table = read_table(HALF_RING)
        lamps = [((1, 0, EAST), (1, 2)), ((0, 0, WEST), (3, 1)), ((1, 0, EAST), (1, 3))]
        kept = list(lamps)
        self.check_own_list(lambda: strengths(table, lamps))
        light = strengths(table, lamps)
        asked = list(light)
        self.assertEqual(lamps, kept)
        lamps.clear()
        self.assertEqual(light, asked)
        none = []
        strengths(table, none).append("spoiled")
        self.assertEqual(none, [])
        self.assertEqual(table.rows(), read_table(HALF_RING).rows())


class Rings(Case):
    def test_a_lamp_in_a_ring(self):
        for p in RING_EAST:
            self.assertEqual(ring_told(read_table(RING), one(p)), RING_EAST)
        for p in RING_WEST:
            self.assertEqual(ring_told(read_table(RING), one(p, (1, LONG))), RING_WEST)

    def test_a_ring_of_one_pass(self):
        self.assertEqual(ring_told(Table([[Fibre("x"), Fibre("x")]]), one((1, 0, EAST))), [(1, 0, EAST)])

    def test_a_ring_with_half_mirrors(self):
        table = read_table(EIGHT)
        told_ring = ring_told(table, one((1, 0, EAST)))
        self.assertEqual(told_ring, sorted([
            (0, 0, NORTH), (1, 0, EAST), (1, 1, SOUTH), (0, 1, WEST),
            (1, 2, SOUTH), (2, 2, EAST), (2, 1, NORTH), (1, 1, WEST),
        ]))

    def test_the_least_caught_pass_with_a_lamp(self):
        table = read_table(TWO_RINGS)
        right = [(x + 2, y, way) for x, y, way in RING_EAST]
        lamps = [((3, 1, SOUTH), ALL), ((1, 1, EAST), ALL), ((2, 0, NORTH), (1, 2)), ((1, 0, EAST), ALL)]
        # (1, 0, EAST) is the least of them, though another ring has a lesser pass and another lamp stands ahead.
        for order in permutations(lamps):
            self.assertEqual(ring_told(table, list(order)), RING_EAST)
        self.assertEqual(ring_told(table, lamps[:2]), RING_WEST)
        self.assertEqual(ring_told(table, [lamps[0], lamps[2]]), right)
        self.assertEqual(ring_told(table, one((1, 0, NORTH)) + one((1, 0, EAST))), RING_EAST)

    def test_lamps_beside_it_do_not_count(self):
        lamps = one((0, 0, EAST)) + one((-1, 0, WEST)) + one((1, 1, EAST)) + one((2, 1, EAST))
        self.assertEqual(ring_told(read_table(RING), lamps), RING_WEST)

    def test_refused_as_lamps_are_ahead_of_it(self):
        table = read_table(RING)
        caught = one((1, 0, EAST))
        for ask in (strengths, outcome):
            self.check_refused(Ring, ask, table, caught)
            for p in NO_PASSES:
                self.check_refused(NoPass, ask, table, one(p))
                self.check_refused(NoPass, ask, table, caught + one(p))
                self.check_refused(NoPass, ask, table, caught + one(p, NOTHING))
            for strength in (NOTHING, (-1, 1), (-1, LONG)):
                self.check_refused(NoStrength, ask, table, one((0, 0, EAST), strength))
                self.check_refused(NoStrength, ask, table, caught + one((0, 0, EAST), strength))
                self.check_refused(NoStrength, ask, table, one((1, 0, EAST), strength))
                self.check_refused(NoStrength, ask, table, caught + one((0, 0, EAST), strength) + one((5, 5, EAST)))
                self.check_refused(NoPass, ask, table, caught + one((5, 5, EAST)) + one((0, 0, EAST), strength))

    def test_lamps_on_one_pass_are_not_added_ahead_of_that(self):
        lamps = [((0, 0, EAST), (2, 1)), ((0, 0, EAST), (-1, 1))]
        self.check_refused(NoStrength, strengths, Table(empties(1, 1)), lamps)

    def test_the_ring_is_the_takers_own(self):
        table = read_table(RING)
        for ask in (strengths, outcome):
            self.check_own_list(lambda: ring_told(table, one((1, 0, EAST)), ask))

    def test_outcome_is_refused_alike(self):
        random = Random(6)
        for table in ringing_tables():
            lamps = random_lamps(random, all_passes(table), 4)
            self.assertEqual(ring_told(table, lamps, outcome), ring_told(table, lamps))


class Outcomes(Case):
    def check_outcome(self, text, lamps, out, lost):
        told_outcome = outcome(read_table(text), lamps)
        self.assertIs(type(told_outcome), tuple)
        self.assertEqual(told_outcome, (out, lost))

    def test_no_lamps(self):
        for text in (".", "#", RING, EIGHT):
            self.check_outcome(text, [], [], [])

    def test_all_comes_out(self):
        self.check_outcome("a\n\na half / 1/3", one((0, 0, EAST)), [
            ((0, -1, NORTH), (1, 3)), ((1, 0, EAST), (2, 3)),
        ], [])
        self.check_outcome(HALF_RING, one((1, 1, SOUTH), (4, 7)), [((0, -1, NORTH), (4, 7))], [])

    def test_all_is_swallowed(self):
        self.check_outcome(".#", one((0, 0, EAST), (3, 7)), [], [((1, 0), (3, 7))])
        self.check_outcome(FILTERED_RING, one((2, 0, EAST)), [], [((1, 0), ALL)])

    def test_some_of_both(self):
        self.check_outcome("fh#\n\nf filter 2/5\nh half / 1/3", one((0, 0, EAST)), [((1, -1, NORTH), (2, 15))], [
            ((0, 0), (3, 5)), ((2, 0), (4, 15)),
        ])

    def test_several_passes_into_one_cell(self):
        lamps = [((1, 1, way), (1, 1 + way)) for way in (EAST, NORTH, WEST, SOUTH)]
        self.check_outcome("...\n.#.\n...", lamps, [], [((1, 1), (25, 12))])
        self.check_outcome("a\n\na filter 1/3", one((0, 0, EAST)) + one((0, 0, NORTH), (1, 2)), [
            ((0, -1, NORTH), (1, 6)), ((1, 0, EAST), (1, 3)),
        ], [((0, 0), ALL)])

    def test_sorted_by_places(self):
        lamps = one((10, 0, NORTH)) + one((2, 1, NORTH)) + one((2, 0, SOUTH)) + one((0, 1, EAST)) + one((9, 1, EAST))
        places = [(0, 1), (2, 0), (2, 1), (9, 1), (10, 0)]
        self.check_outcome("###########\n###########", lamps, [], [(place, ALL) for place in places])

    def test_lamps_on_outlets_come_out(self):
        self.check_outcome("#", one((-1, 0, WEST), (1, 3)) + one((1, 0, EAST)) + one((-1, 0, WEST), (1, 3)), [
            ((-1, 0, WEST), (2, 3)), ((1, 0, EAST), ALL),
        ], [])

    def test_fibres_swallow_nothing(self):
        self.check_outcome("aa\n\na fibre x", one((0, 0, EAST)) + one((1, 0, NORTH)), [
            ((0, -1, NORTH), ALL), ((2, 0, EAST), ALL),
        ], [])

    def test_everywhere(self):
        random = Random(7)
        for table in sample_tables() + ringing_tables():
            reckoned = Reckoned(table)
            rim = set(outlets(table))
            for most in (2, 12):
                lamps = random_lamps(random, free_passes(table), most)
                light = strengths(table, lamps)
                out, lost = outcome(table, lamps)
                self.check_light(out)
                self.assertEqual(out, [(p, strength) for p, strength in light if p in rim])
                asked = {}
                for p, strength in light:
                    asked[p[:2]] = asked.get(p[:2], 0) + Fraction(*strength) * reckoned.swallowed(p)
                self.assertIs(type(lost), list)
                self.assertEqual(lost, told_light(asked))
                for place, strength in lost:
                    self.assertEqual(type(place), tuple)
                    self.check_fraction(strength)

    def test_what_is_handed_in_stays(self):
        table = read_table("fh#\n\nf filter 2/5\nh half / 1/3")
        lamps = one((1, 0, EAST)) + one((0, 0, EAST))
        kept = list(lamps)
        for number in (0, 1):
            self.check_own_list(lambda: outcome(table, lamps)[number])
        self.assertEqual(lamps, kept)

    def test_many_inlets(self):
        table = random_table(38, 6, 5, 4)
        lamps = [(p, ALL) for p in inlets(table)]
        out, lost = outcome(table, lamps)
        whole = sum((Fraction(*strength) for _, strength in out + lost), Fraction(0))
        self.assertEqual(whole, len(lamps))


if __name__ == "__main__":
    unittest.main()
