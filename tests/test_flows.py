import unittest
from fractions import Fraction
from itertools import permutations
from random import Random

from beamtable.cells import Empty, Fibre, Filter, Half, Mirror, Wall
from beamtable.errors import NoPass, NoStrength
from beamtable.flows import joined, light_of, lost_in, scaled, stepped, sum_of
from beamtable.passes import all_passes, outlets
from beamtable.tables import Table
from beamtable.texts import read_table
from tests.cases import Case, empties
from tests.reckoned import Reckoned, random_strength, sample_tables, told, told_light

EAST, NORTH, WEST, SOUTH = 0, 1, 2, 3
WAYS = (EAST, NORTH, WEST, SOUTH)
ALL = (1, 1)
NOTHING = (0, 1)
FAR = 10 ** 30
LONG = 10 ** 29 + 57
OTHER_LONG = 10 ** 29 + 319
NONE = (5, 5, EAST)


def alone(cell):
    """The cell in the middle of three by three."""
    rows = empties(3, 3)
    rows[1][1] = cell
    return Table(rows)


def random_light(random, passes):
    """Strengths for some of the passes, as a dict of Fractions."""
    some = random.sample(passes, random.randrange(len(passes) + 1))
    return {p: Fraction(*random_strength(random)) for p in some}


class Lamps(Case):
    def setUp(self):
        self.table = Table(empties(3, 2))

    def test_none(self):
        self.assertEqual(light_of(self.table, []), [])

    def test_one(self):
        for p in all_passes(self.table):
            with self.subTest(p):
                self.assertEqual(light_of(self.table, [(p, (2, 3))]), [(p, (2, 3))])

    def test_several_on_one_pass(self):
        p = (1, 1, NORTH)
        self.assertEqual(light_of(self.table, [(p, (1, 6)), (p, (1, 3)), (p, (1, 2))]), [(p, ALL)])
        self.assertEqual(light_of(self.table, [(p, (1, 6)), (p, (1, 6))]), [(p, (1, 3))])

    def test_in_any_order(self):
        lamps = [((1, 0, EAST), (1, 2)), ((-1, 0, WEST), (3, 1)), ((1, 0, EAST), (1, 3)), ((1, 0, SOUTH), (1, 5))]
        asked = [((-1, 0, WEST), (3, 1)), ((1, 0, EAST), (5, 6)), ((1, 0, SOUTH), (1, 5))]
        for order in permutations(lamps):
            self.assertEqual(light_of(self.table, list(order)), asked)

    def test_sorted_by_passes_as_numbers(self):
        table = Table(empties(12, 12))
        passes = [(10, 0, 0), (2, 11, 3), (2, 3, 1), (-1, 5, 2), (2, 3, 0), (9, 12, 3)]
        self.assertEqual([pair[0] for pair in light_of(table, [(p, ALL) for p in passes])], sorted(passes))

    def test_thirty_figures(self):
        p = (0, 0, EAST)
        top = LONG + OTHER_LONG
        self.assertEqual(light_of(self.table, [(p, (1, LONG)), (p, (1, OTHER_LONG))]), [(p, (top, LONG * OTHER_LONG))])
        self.assertEqual(light_of(self.table, [(p, (LONG, 1)), (p, (FAR, 1))]), [(p, (LONG + FAR, 1))])
        self.assertEqual(light_of(self.table, [(p, (LONG, OTHER_LONG))]), [(p, (LONG, OTHER_LONG))])

    def test_three_hundred(self):
        passes = all_passes(self.table)
        lamps = [(passes[number * 7 % len(passes)], told(Fraction(number + 1, 3))) for number in range(300)]
        asked = {}
        for p, strength in lamps:
            asked[p] = asked.get(p, 0) + Fraction(*strength)
        self.assertEqual(light_of(self.table, lamps), told_light(asked))

    def test_form(self):
        random = Random(3)
        for table in sample_tables():
            passes = all_passes(table)
            lamps = [(random.choice(passes), random_strength(random)) for _ in range(12)]
            self.check_light(light_of(table, lamps))

    def test_no_pass(self):
        for p in (NONE, (-1, 0, EAST), (3, 0, WEST), (0, 2, NORTH), (0, 0, 4), (0, 0, -1), (FAR, 0, EAST)):
            with self.subTest(p):
                self.check_refused(NoPass, light_of, self.table, [(p, ALL)])

    def test_no_strength(self):
        for strength in (NOTHING, (-1, 1), (-1, LONG), (-LONG, 2)):
            with self.subTest(strength):
                self.check_refused(NoStrength, light_of, self.table, [((0, 0, EAST), strength)])

    def test_both_in_one_lamp(self):
        self.check_refused(NoPass, light_of, self.table, [(NONE, NOTHING)])
        self.check_refused(NoPass, light_of, self.table, [(NONE, (-1, 2)), ((0, 0, EAST), NOTHING)])

    def test_the_first_in_the_list(self):
        good, dim, lost = ((0, 0, EAST), ALL), ((0, 0, EAST), NOTHING), (NONE, ALL)
        self.check_refused(NoStrength, light_of, self.table, [dim, lost])
        self.check_refused(NoPass, light_of, self.table, [lost, dim])
        self.check_refused(NoStrength, light_of, self.table, [good, good, dim, good, lost])
        self.check_refused(NoPass, light_of, self.table, [good, lost, good, dim])
        # By passes these would come the other way about.
        self.check_refused(NoStrength, light_of, self.table, [((2, 1, SOUTH), NOTHING), ((-5, 0, EAST), ALL)])

    def test_strengths_that_would_come_to_more_than_0(self):
        p = (0, 0, EAST)
        self.check_refused(NoStrength, light_of, self.table, [(p, (3, 1)), (p, (-1, 1))])

    def test_the_lamps_stay(self):
        lamps = [((1, 0, EAST), (1, 2)), ((-1, 0, WEST), (3, 1)), ((1, 0, EAST), (1, 3))]
        kept = list(lamps)
        light = light_of(self.table, lamps)
        self.assertEqual(lamps, kept)
        asked = list(light)
        lamps.clear()
        lamps.append(((0, 0, EAST), ALL))
        self.assertEqual(light, asked)
        light.clear()
        self.assertEqual(lamps, [((0, 0, EAST), ALL)])

    def test_the_list_is_the_askers_own(self):
        lamps = [((1, 0, EAST), (1, 2)), ((-1, 0, WEST), (3, 1))]
        self.check_own_list(lambda: light_of(self.table, lamps))
        none = []
        light_of(self.table, none).append("spoiled")
        self.assertEqual(none, [])


class Steps(Case):
    def check_step(self, cell, asked, lost):
        """Light of 3/4 into the cell each way: pairs of the way and the strength it leaves with, and what is lost."""
        to = {EAST: (2, 1, EAST), NORTH: (1, 0, NORTH), WEST: (0, 1, WEST), SOUTH: (1, 2, SOUTH)}
        for way in WAYS:
            with self.subTest(cell.row(), way=way):
                light = [((1, 1, way), (3, 4))]
                told_step = sorted((to[on], strength) for on, strength in asked[way])
                self.assertEqual(stepped(alone(cell), light), told_step)
                self.assertEqual(lost_in(alone(cell), light), lost)

    def test_empty(self):
        self.check_step(Empty(), [[(way, (3, 4))] for way in WAYS], NOTHING)

    def test_mirrors(self):
        self.check_step(Mirror(1), [[(way, (3, 4))] for way in (NORTH, EAST, SOUTH, WEST)], NOTHING)
        self.check_step(Mirror(3), [[(way, (3, 4))] for way in (SOUTH, WEST, NORTH, EAST)], NOTHING)

    def test_halves(self):
        self.check_step(Half(1, (1, 3)), [
            [(EAST, (1, 2)), (NORTH, (1, 4))], [(NORTH, (1, 2)), (EAST, (1, 4))],
            [(WEST, (1, 2)), (SOUTH, (1, 4))], [(SOUTH, (1, 2)), (WEST, (1, 4))],
        ], NOTHING)
        self.check_step(Half(3, (1, 3)), [
            [(EAST, (1, 2)), (SOUTH, (1, 4))], [(NORTH, (1, 2)), (WEST, (1, 4))],
            [(WEST, (1, 2)), (NORTH, (1, 4))], [(SOUTH, (1, 2)), (EAST, (1, 4))],
        ], NOTHING)

    def test_filter(self):
        self.check_step(Filter((2, 5)), [[(way, (3, 10))] for way in WAYS], (9, 20))

    def test_wall(self):
        self.check_step(Wall(), [[], [], [], []], (3, 4))

    def test_fibres(self):
        table = Table([[Fibre("x"), Empty(), Fibre("x"), Empty()]])
        self.assertEqual(stepped(table, [((0, 0, EAST), (1, 7))]), [((3, 0, EAST), (1, 7))])
        self.assertEqual(stepped(table, [((2, 0, WEST), (1, 7))]), [((-1, 0, WEST), (1, 7))])
        self.assertEqual(lost_in(table, [((0, 0, EAST), (1, 7))]), NOTHING)

    def test_light_that_comes_together(self):
        table = alone(Half(1, (1, 3)))
        light = [((1, 1, EAST), (1, 2)), ((1, 1, NORTH), (1, 2))]
        self.assertEqual(stepped(table, light), [((1, 0, NORTH), (1, 2)), ((2, 1, EAST), (1, 2))])
        light = [((1, 1, WEST), (1, LONG)), ((1, 1, SOUTH), (1, OTHER_LONG))]
        self.assertEqual(stepped(table, light), [
            ((0, 1, WEST), told(Fraction(2, 3 * LONG) + Fraction(1, 3 * OTHER_LONG))),
            ((1, 2, SOUTH), told(Fraction(1, 3 * LONG) + Fraction(2, 3 * OTHER_LONG))),
        ])

    def test_light_on_outlets_is_gone(self):
        for table in (Table(empties(2, 2)), Table([[Wall()]]), Table([[Half(1, (1, 3))]]), Table([[Filter((1, 2))]])):
            light = [(p, (5, 3)) for p in outlets(table)]
            self.assertEqual(stepped(table, light), [])
            self.assertEqual(lost_in(table, light), NOTHING)

    def test_no_light(self):
        for table in sample_tables():
            self.assertEqual(stepped(table, []), [])
            self.assertEqual(lost_in(table, []), NOTHING)

    def test_light_goes_on_where_other_light_was(self):
        # The old light is gone from its passes, whatever comes to them.
        table = Table([[Empty(), Empty(), Empty()]])
        light = [((0, 0, EAST), (1, 2)), ((1, 0, EAST), (1, 3)), ((2, 0, EAST), (1, 5))]
        self.assertEqual(stepped(table, light), [
            ((1, 0, EAST), (1, 2)), ((2, 0, EAST), (1, 3)), ((3, 0, EAST), (1, 5)),
        ])

    def test_a_ring_of_one_pass(self):
        table = Table([[Fibre("x"), Fibre("x")]])
        self.assertEqual(stepped(table, [((1, 0, EAST), (2, 3))]), [((1, 0, EAST), (2, 3))])

    def test_lost_in_several_cells(self):
        table = read_table("a#.\n\na filter 2/5")
        light = [((0, 0, EAST), (1, 2)), ((0, 0, WEST), (1, 3)), ((1, 0, WEST), (1, 7)), ((2, 0, EAST), (9, 1))]
        self.assertEqual(lost_in(table, light), told(Fraction(3, 5) * Fraction(5, 6) + Fraction(1, 7)))


class StepsAll(Case):
    def test_each_step_and_what_is_lost(self):
        random = Random(5)
        for table in sample_tables():
            reckoned = Reckoned(table)
            passes = reckoned.passes()
            for _ in range(5):
                given = random_light(random, passes)
                asked = {}
                for p, strength in given.items():
                    for following, share in reckoned.onward(p).items():
                        asked[following] = asked.get(following, 0) + strength * share
                lost = sum((strength * reckoned.swallowed(p) for p, strength in given.items()), Fraction(0))
                light = told_light(given)
                step = stepped(table, light)
                self.check_light(step)
                self.assertEqual(step, told_light(asked))
                self.assertEqual(lost_in(table, light), told(lost))
                self.check_fraction(lost_in(table, light))

    def test_nothing_of_the_sum_is_missing(self):
        random = Random(6)
        for table in sample_tables():
            rim = set(outlets(table))
            light = told_light(random_light(random, all_passes(table)))
            for _ in range(6):
                out = sum((Fraction(*strength) for p, strength in light if p in rim), Fraction(0))
                step = stepped(table, light)
                parts = [Fraction(*sum_of(step)), Fraction(*lost_in(table, light)), out]
                self.assertEqual(Fraction(*sum_of(light)), sum(parts))
                light = step

    def test_what_is_handed_in_stays(self):
        table = read_table("a#b\n\na filter 2/5\nb half / 1/3")
        light = [((0, 0, EAST), (1, 2)), ((0, 0, NORTH), (2, 1)), ((1, 0, EAST), (1, 3)), ((2, 0, WEST), (1, 5))]
        kept = list(light)
        step = stepped(table, light)
        asked = list(step)
        lost_in(table, light)
        sum_of(light)
        self.assertEqual(light, kept)
        light.clear()
        self.assertEqual(step, asked)
        step.clear()
        self.assertEqual(stepped(table, kept), asked)
        self.check_own_list(lambda: stepped(table, kept))


class Sums(Case):
    def test_of_no_light(self):
        self.assertEqual(sum_of([]), NOTHING)

    def test_of_some(self):
        self.assertEqual(sum_of([((0, 0, EAST), (2, 3))]), (2, 3))
        self.assertEqual(sum_of([((0, 0, EAST), (1, 6)), ((0, 0, NORTH), (1, 3)), ((1, 0, EAST), (1, 2))]), ALL)
        self.assertEqual(
            sum_of([((0, 0, EAST), (1, LONG)), ((0, 0, NORTH), (1, OTHER_LONG))]),
            (LONG + OTHER_LONG, LONG * OTHER_LONG),
        )

    def test_outlets_count(self):
        self.assertEqual(sum_of([((-1, 0, WEST), (1, 2)), ((0, 0, EAST), (1, 2))]), ALL)


class Joined(Case):
    ONE = [((0, 0, EAST), (1, 2)), ((1, 0, EAST), (1, 3)), ((1, 0, NORTH), (4, 1))]
    OTHER = [((-1, 0, WEST), (7, 1)), ((1, 0, EAST), (1, 6)), ((1, 0, WEST), (2, 9)), ((3, 0, EAST), (1, LONG))]
    BOTH = [
        ((-1, 0, WEST), (7, 1)), ((0, 0, EAST), (1, 2)), ((1, 0, EAST), (1, 2)), ((1, 0, NORTH), (4, 1)),
        ((1, 0, WEST), (2, 9)), ((3, 0, EAST), (1, LONG)),
    ]

    def test_both_ways_about(self):
        self.assertEqual(joined(self.ONE, self.OTHER), self.BOTH)
        self.assertEqual(joined(self.OTHER, self.ONE), self.BOTH)

    def test_with_no_light(self):
        self.assertEqual(joined([], []), [])
        self.assertEqual(joined(self.ONE, []), self.ONE)
        self.assertEqual(joined([], self.ONE), self.ONE)

    def test_with_itself(self):
        self.assertEqual(joined(self.ONE, self.ONE), [(p, told(2 * Fraction(*strength))) for p, strength in self.ONE])

    def test_many(self):
        random = Random(8)
        for table in sample_tables():
            one = random_light(random, all_passes(table))
            other = random_light(random, all_passes(table))
            asked = {p: one.get(p, 0) + other.get(p, 0) for p in list(one) + list(other)}
            self.check_light(joined(told_light(one), told_light(other)))
            self.assertEqual(joined(told_light(one), told_light(other)), told_light(asked))
            self.assertEqual(joined(told_light(other), told_light(one)), told_light(asked))

    def test_what_is_handed_in_stays(self):
        for one, other in ((self.ONE, self.OTHER), (self.OTHER, []), ([], self.ONE), (self.ONE, self.ONE)):
            given = (list(one), list(other))
            told_both = joined(*given)
            asked = list(told_both)
            self.assertEqual(given, (one, other))
            told_both.append("spoiled")
            self.assertEqual(given, (one, other))
            self.assertEqual(joined(*given), asked)
            self.check_own_list(lambda: joined(*given))


class Scaled(Case):
    LIGHT = [((-1, 0, WEST), (7, 1)), ((0, 0, EAST), (1, 2)), ((1, 0, EAST), (4, 3))]

    def test_so_many_times(self):
        self.assertEqual(scaled(self.LIGHT, (3, 2)), [
            ((-1, 0, WEST), (21, 2)), ((0, 0, EAST), (3, 4)), ((1, 0, EAST), (2, 1)),
        ])
        self.assertEqual(scaled(self.LIGHT, ALL), self.LIGHT)
        self.assertEqual(scaled(self.LIGHT, (1, LONG)), [
            ((-1, 0, WEST), (7, LONG)), ((0, 0, EAST), (1, 2 * LONG)), ((1, 0, EAST), told(Fraction(4, 3 * LONG))),
        ])
        self.assertEqual(scaled(self.LIGHT, (LONG, 1))[0], ((-1, 0, WEST), (7 * LONG, 1)))

    def test_no_light(self):
        self.assertEqual(scaled([], (3, 2)), [])

    def test_form(self):
        random = Random(9)
        for table in sample_tables():
            light = told_light(random_light(random, all_passes(table)))
            by = random_strength(random)
            self.check_light(scaled(light, by))
            self.assertEqual(scaled(light, by), [(p, told(Fraction(*s) * Fraction(*by))) for p, s in light])

    def test_no_strength(self):
        for light in (self.LIGHT, []):
            for by in (NOTHING, (-1, 1), (-1, LONG), (-LONG, 7)):
                with self.subTest(by, light=light):
                    self.check_refused(NoStrength, scaled, light, by)

    def test_what_is_handed_in_stays(self):
        for by in (ALL, (2, 1)):
            light = list(self.LIGHT)
            stronger = scaled(light, by)
            asked = list(stronger)
            self.assertEqual(light, self.LIGHT)
            stronger.clear()
            self.assertEqual(light, self.LIGHT)
            self.assertEqual(scaled(light, by), asked)
            self.check_own_list(lambda: scaled(light, by))
        none = []
        scaled(none, ALL).append("spoiled")
        self.assertEqual(none, [])


if __name__ == "__main__":
    unittest.main()
