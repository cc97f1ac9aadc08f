import unittest
from fractions import Fraction

from beamtable.cells import Half, Wall
from beamtable.errors import NoMost, NoPass
from beamtable.passes import all_passes, inlets, outlets
from beamtable.rays import ray_from, trails_from
from beamtable.tables import Table
from beamtable.texts import read_table
from beamtable.ways import back_of
from tests.cases import Case, empties
from tests.reckoned import Reckoned, random_table, sample_tables, told

EAST, NORTH, WEST, SOUTH = 0, 1, 2, 3
ALL = (1, 1)
FAR = 10 ** 30
LONG = 10 ** 29 + 57

# A ring of mirrors round an empty place, with a filter above and one below.
FILTERED_RING = "/a\\\n...\n\\b/\n\na filter 2/5\nb filter 1/3"
NO_PASSES = (
    (-1, 0, EAST), (-1, 0, NORTH), (3, 1, WEST), (3, 1, SOUTH), (1, -1, SOUTH), (1, 2, NORTH), (-1, -1, NORTH),
    (3, 2, EAST), (-2, 0, WEST), (1, 3, SOUTH), (1, 1, -1), (1, 1, 4), (1, 1, FAR), (FAR, 0, EAST), (0, -FAR, NORTH),
)


def ring_of_four():
    return read_table("/\\\n\\/")


class Rays(Case):
    def check_ray(self, table, p, asked):
        self.assertEqual(ray_from(table, p), asked)

    def test_straight_out(self):
        table = Table(empties(3, 2))
        self.check_ray(table, (0, 1, EAST), ([(0, 1, EAST), (1, 1, EAST), (2, 1, EAST), (3, 1, EAST)], ALL, "out"))
        self.check_ray(table, (1, 1, NORTH), ([(1, 1, NORTH), (1, 0, NORTH), (1, -1, NORTH)], ALL, "out"))
        self.check_ray(table, (0, 0, WEST), ([(0, 0, WEST), (-1, 0, WEST)], ALL, "out"))
        self.check_ray(table, (2, 0, SOUTH), ([(2, 0, SOUTH), (2, 1, SOUTH), (2, 2, SOUTH)], ALL, "out"))

    def test_thrown_out(self):
        table = read_table(".\\\n//")
        self.check_ray(table, (0, 0, EAST), (
            [(0, 0, EAST), (1, 0, EAST), (1, 1, SOUTH), (0, 1, WEST), (0, 2, SOUTH)], ALL, "out"
        ))

    def test_the_first_pass_an_outlet(self):
        for table in (Table(empties(2, 3)), ring_of_four(), Table([[Wall()]]), Table([[Half(1, (1, 3))]])):
            for p in outlets(table):
                with self.subTest(p):
                    self.check_ray(table, p, ([p], ALL, "out"))

    def test_into_a_wall(self):
        table = read_table("..#")
        self.check_ray(table, (0, 0, EAST), ([(0, 0, EAST), (1, 0, EAST), (2, 0, EAST)], ALL, "wall"))
        for p in ((2, 0, EAST), (2, 0, NORTH), (2, 0, WEST), (2, 0, SOUTH)):
            with self.subTest(p):
                self.check_ray(table, p, ([p], ALL, "wall"))

    def test_into_a_half_mirror(self):
        table = read_table(".\\\n.a\n\na half / 1/3")
        self.check_ray(table, (0, 0, EAST), ([(0, 0, EAST), (1, 0, EAST), (1, 1, SOUTH)], ALL, "half"))
        for p in ((1, 1, EAST), (1, 1, NORTH), (1, 1, WEST), (1, 1, SOUTH)):
            with self.subTest(p):
                self.check_ray(table, p, ([p], ALL, "half"))

    def test_through_fibres(self):
        table = read_table("a..#\n...a\n\na fibre x")
        self.check_ray(table, (0, 0, WEST), (
            [(0, 0, WEST), (2, 1, WEST), (1, 1, WEST), (0, 1, WEST), (-1, 1, WEST)], ALL, "out"
        ))
        self.check_ray(table, (2, 1, EAST), (
            [(2, 1, EAST), (3, 1, EAST), (1, 0, EAST), (2, 0, EAST), (3, 0, EAST)], ALL, "wall"
        ))


class RayShares(Case):
    def test_filters_gone_through(self):
        table = read_table("a.b\n\na filter 2/5\nb filter 1/3")
        self.assertEqual(ray_from(table, (0, 0, EAST))[1], (2, 15))
        self.assertEqual(ray_from(table, (1, 0, EAST))[1], (1, 3))
        self.assertEqual(ray_from(table, (0, 0, NORTH)), ([(0, 0, NORTH), (0, -1, NORTH)], (2, 5), "out"))
        self.assertEqual(ray_from(table, (1, 0, NORTH))[1], ALL)

    def test_a_filter_gone_through_twice(self):
        table = read_table("./\\\n.a/\n...\n\na filter 2/5")
        self.assertEqual(ray_from(table, (0, 1, EAST)), (
            [
                (0, 1, EAST), (1, 1, EAST), (2, 1, EAST), (2, 0, NORTH), (1, 0, WEST), (1, 1, SOUTH), (1, 2, SOUTH),
                (1, 3, SOUTH),
            ],
            (4, 25), "out",
        ))

    def test_like_filters_in_a_row(self):
        table = read_table("aaa#\n\na filter 2/5")
        self.assertEqual(ray_from(table, (0, 0, EAST))[1:], ((8, 125), "wall"))

    def test_without_the_cell_at_the_end(self):
        for end, sign in (("wall", "#"), ("half", "b")):
            table = read_table(f"a{sign}\n\na filter 2/5" + ("\nb half / 1/3" if sign == "b" else ""))
            with self.subTest(end):
                self.assertEqual(ray_from(table, (0, 0, EAST)), ([(0, 0, EAST), (1, 0, EAST)], (2, 5), end))

    def test_large_bottoms(self):
        table = read_table(f"ab\n\na filter {LONG - 1}/{LONG}\nb filter 1/{LONG}")
        self.assertEqual(ray_from(table, (0, 0, EAST))[1], (LONG - 1, LONG * LONG))


class Rings(Case):
    def check_ring(self, table, passes, share):
        """The ring from each of its passes, and from each of their backs."""
        backs = [back_of(p) for p in reversed(passes)]
        for ring in (passes, backs):
            for first in range(len(ring)):
                with self.subTest(ring[first]):
                    turned = ring[first:] + ring[:first]
                    self.assertEqual(ray_from(table, ring[first]), (turned, share, "ring"))

    def test_of_mirrors(self):
        self.check_ring(ring_of_four(), [(1, 0, EAST), (1, 1, SOUTH), (0, 1, WEST), (0, 0, NORTH)], ALL)

    def test_through_filters(self):
        # From whichever pass it is followed, also from the one behind a filter, both filters count once.
        self.check_ring(read_table(FILTERED_RING), [
            (1, 0, EAST), (2, 0, EAST), (2, 1, SOUTH), (2, 2, SOUTH), (1, 2, WEST), (0, 2, WEST), (0, 1, NORTH),
            (0, 0, NORTH),
        ], (2, 15))

    def test_the_last_pass_comes_into_a_filter(self):
        told_ray = ray_from(read_table(FILTERED_RING), (2, 0, EAST))
        self.assertEqual(told_ray[0][-1], (1, 0, EAST))
        self.assertEqual(told_ray[1:], ((2, 15), "ring"))

    def test_through_fibres(self):
        self.check_ring(read_table("a.a\n\na fibre x"), [(1, 0, EAST), (2, 0, EAST)], ALL)

    def test_through_fibres_and_a_filter(self):
        self.check_ring(read_table("afa\n\na fibre x\nf filter 6/7"), [(1, 0, EAST), (2, 0, EAST)], (6, 7))

    def test_of_one_pass(self):
        self.check_ring(read_table("aa\n\na fibre x"), [(1, 0, EAST)], ALL)
        self.check_ring(read_table("a\na\n\na fibre x"), [(0, 1, SOUTH)], ALL)

    def test_a_filter_twice_in_a_ring(self):
        # The ring crosses itself at the filter.
        table = read_table("/\\.\n\\a\\\n.\\/\n\na filter 1/3")
        told_ray = ray_from(table, (1, 1, EAST))
        self.assertEqual(told_ray[1:], ((1, 9), "ring"))
        self.assertEqual([p[:2] for p in told_ray[0]].count((1, 1)), 2)
        self.check_ring(table, told_ray[0], (1, 9))

    def test_light_from_outside_comes_into_none(self):
        table = read_table(FILTERED_RING)
        for p in inlets(table):
            with self.subTest(p):
                self.assertEqual(ray_from(table, p)[2], "out")


class RaysAll(Case):
    def reckon(self, table, p):
        reckoned = Reckoned(table)
        passes = [p]
        share = Fraction(1)
        while True:
            kind = reckoned.kind(passes[-1])
            if kind in (None, "wall", "half"):
                return (passes, told(share), "out" if kind is None else kind)
            ((following, part),) = reckoned.onward(passes[-1]).items()
            share *= part
            if following == p:
                return (passes, told(share), "ring")
            passes.append(following)

    def test_from_every_pass(self):
        ends = {}
        for parting in (True, False):
            for table in sample_tables(parting):
                for p in all_passes(table):
                    asked = self.reckon(table, p)
                    self.assertEqual(ray_from(table, p), asked)
                    ends[asked[2]] = ends.get(asked[2], 0) + 1
        self.assertEqual(sorted(ends), ["half", "out", "ring", "wall"])
        self.assertGreater(min(ends.values()), 20)

    def test_form(self):
        for table in sample_tables():
            for p in all_passes(table):
                ray = ray_from(table, p)
                self.assertIs(type(ray), tuple)
                self.assertEqual([type(part) for part in ray], [list, tuple, str])
                self.check_fraction(ray[1])
                self.assertEqual(len(set(ray[0])), len(ray[0]))


class RaysRefused(Case):
    def test_no_pass(self):
        for p in NO_PASSES:
            with self.subTest(p):
                self.check_refused(NoPass, ray_from, Table(empties(3, 2)), p)

    def test_the_list_is_the_askers_own(self):
        for table, p in (
            (ring_of_four(), (1, 0, EAST)), (Table(empties(3, 2)), (0, 0, EAST)), (Table([[Wall()]]), (0, 0, EAST)),
        ):
            with self.subTest(p):
                self.check_own_list(lambda: ray_from(table, p)[0])

    def test_a_told_list_is_not_changed_later(self):
        table = ring_of_four()
        ray = ray_from(table, (1, 0, EAST))
        kept = (list(ray[0]),) + ray[1:]
        ray_from(table, (1, 0, EAST))[0].clear()
        ray_from(table, (0, 0, EAST))
        trails_from(table, (1, 0, EAST), 12)
        self.assertEqual(ray, kept)


class Trails(Case):
    def test_most_one(self):
        table = read_table(".#a\n\na half / 1/3")
        self.assertEqual(trails_from(table, (0, 0, EAST), 1), [([(0, 0, EAST)], ALL, "on")])
        self.assertEqual(trails_from(table, (1, 0, EAST), 1), [([(1, 0, EAST)], ALL, "wall")])
        self.assertEqual(trails_from(table, (2, 0, EAST), 1), [([(2, 0, EAST)], ALL, "on")])
        self.assertEqual(trails_from(table, (3, 0, EAST), 1), [([(3, 0, EAST)], ALL, "out")])

    def test_out_and_wall_go_ahead_of_on(self):
        table = read_table("..#")
        self.assertEqual(trails_from(table, (0, 0, EAST), 2), [([(0, 0, EAST), (1, 0, EAST)], ALL, "on")])
        for most in (3, 4, 12):
            self.assertEqual(trails_from(table, (0, 0, EAST), most), [
                ([(0, 0, EAST), (1, 0, EAST), (2, 0, EAST)], ALL, "wall")
            ])
        self.assertEqual(trails_from(table, (1, 0, WEST), 2), [([(1, 0, WEST), (0, 0, WEST)], ALL, "on")])
        for most in (3, 4, 12):
            self.assertEqual(trails_from(table, (1, 0, WEST), most), [
                ([(1, 0, WEST), (0, 0, WEST), (-1, 0, WEST)], ALL, "out")
            ])

    def test_parted(self):
        table = read_table("a\n\na half / 1/3")
        for most in (2, 7, 12):
            self.assertEqual(trails_from(table, (0, 0, EAST), most), [
                ([(0, 0, EAST), (0, -1, NORTH)], (1, 3), "out"), ([(0, 0, EAST), (1, 0, EAST)], (2, 3), "out"),
            ])

    def test_the_order_is_that_of_the_passes(self):
        # By strength, by end, by length or by the way it would be another one.
        table = read_table("#..\n.a.\n.b.\n\na half \\ 1/10\nb half / 1/3")
        self.assertEqual(trails_from(table, (1, 1, SOUTH), 4), [
            ([(1, 1, SOUTH), (1, 2, SOUTH), (0, 2, WEST), (-1, 2, WEST)], (3, 10), "out"),
            ([(1, 1, SOUTH), (1, 2, SOUTH), (1, 3, SOUTH)], (3, 5), "out"),
            ([(1, 1, SOUTH), (2, 1, EAST), (3, 1, EAST)], (1, 10), "out"),
        ])

    def test_filters_fibres_and_walls(self):
        table = read_table("afb#\na..h\n\na fibre x\nb filter 2/5\nf filter 1/3\nh half \\ 1/4")
        self.assertEqual(trails_from(table, (0, 1, EAST), 4), [
            ([(0, 1, EAST), (1, 0, EAST), (2, 0, EAST), (3, 0, EAST)], (2, 15), "wall")
        ])
        self.assertEqual(trails_from(table, (0, 0, EAST), 5), [
            ([(0, 0, EAST), (1, 1, EAST), (2, 1, EAST), (3, 1, EAST), (3, 2, SOUTH)], (1, 4), "out"),
            ([(0, 0, EAST), (1, 1, EAST), (2, 1, EAST), (3, 1, EAST), (4, 1, EAST)], (3, 4), "out"),
        ])
        self.assertEqual(trails_from(table, (3, 1, WEST), 2), [
            ([(3, 1, WEST), (2, 1, WEST)], (3, 4), "on"), ([(3, 1, WEST), (3, 0, NORTH)], (1, 4), "wall"),
        ])

    def test_the_last_filter_does_not_count(self):
        table = read_table("aaaa\n\na filter 1/2")
        self.assertEqual(trails_from(table, (0, 0, EAST), 3)[0][1:], ((1, 4), "on"))
        self.assertEqual(trails_from(table, (0, 0, EAST), 5)[0][1:], ((1, 16), "out"))

    def test_a_ring_goes_on(self):
        ring = [(1, 0, EAST), (1, 1, SOUTH), (0, 1, WEST), (0, 0, NORTH)]
        for most in range(1, 13):
            with self.subTest(most):
                self.assertEqual(trails_from(ring_of_four(), ring[0], most), [((ring * 3)[:most], ALL, "on")])
        table = read_table(FILTERED_RING)
        self.assertEqual(trails_from(table, (1, 0, EAST), 12)[0][1:], ((4, 75), "on"))

    def test_parted_in_a_ring(self):
        table = read_table("a\\\n\\/\n\na half / 1/3")
        round_once = [(1, 0, EAST), (1, 1, SOUTH), (0, 1, WEST), (0, 0, NORTH)]
        self.assertEqual(trails_from(table, (1, 0, EAST), 9), [
            (round_once + [(0, -1, NORTH)], (2, 3), "out"),
            (round_once * 2 + [(0, -1, NORTH)], (2, 9), "out"),
            (round_once * 2 + [(1, 0, EAST)], (1, 9), "on"),
        ])

    def test_as_many_as_can_be(self):
        # Half mirrors alone, and none of them near enough to the rim for light to be out too soon.
        table = Table([[Half(1 + 2 * ((x + y) % 2), (1, 2)) for x in range(16)] for y in range(16)])
        trails = trails_from(table, (8, 8, EAST), 8)
        self.assertEqual(len(trails), 2 ** 7)
        self.assertEqual({trail[1:] for trail in trails}, {((1, 2 ** 7), "on")})
        self.assertEqual(sum(Fraction(*trail[1]) for trail in trails_from(table, (8, 8, EAST), 12)), 1)


class TrailsAll(Case):
    def reckon(self, reckoned, passes, share, most):
        onward = reckoned.onward(passes[-1])
        if not onward:
            return [(passes, told(share), "out" if reckoned.kind(passes[-1]) is None else "wall")]
        if len(passes) == most:
            return [(passes, told(share), "on")]
        found = []
        for following in sorted(onward):
            found += self.reckon(reckoned, passes + [following], share * onward[following], most)
        return found

    def test_from_every_pass(self):
        ends = {}
        for table in sample_tables():
            reckoned = Reckoned(table)
            for p in all_passes(table):
                for most in (1, 2, 7):
                    trails = trails_from(table, p, most)
                    self.assertEqual(trails, self.reckon(reckoned, [p], Fraction(1), most))
                    for trail in trails:
                        ends[trail[2]] = ends.get(trail[2], 0) + 1
        self.assertEqual(sorted(ends), ["on", "out", "wall"])
        self.assertGreater(min(ends.values()), 20)

    def test_the_longest(self):
        halves = read_table("ab\nba\n\na half / 1/3\nb half \\ 1/3")
        for table in (random_table(20, 6, 5, 4), random_table(7, 4, 4, 1), halves):
            reckoned = Reckoned(table)
            for p in all_passes(table)[::5]:
                self.assertEqual(trails_from(table, p, 12), self.reckon(reckoned, [p], Fraction(1), 12))

    def test_form(self):
        for table in sample_tables()[:12]:
            for p in all_passes(table):
                trails = trails_from(table, p, 6)
                lists = [trail[0] for trail in trails]
                self.assertEqual(lists, sorted(lists))
                self.assertEqual(len({tuple(passes) for passes in lists}), len(lists))
                for trail in trails:
                    self.assertIs(type(trail), tuple)
                    self.assertEqual([type(part) for part in trail], [list, tuple, str])
                    self.check_fraction(trail[1])


class TrailsRefused(Case):
    def test_no_most(self):
        table = Table(empties(3, 2))
        for p in ((0, 0, EAST), (3, 0, EAST)):
            for most in (0, 13, 14, -1, -12, FAR, -FAR):
                with self.subTest(most):
                    self.check_refused(NoMost, trails_from, table, p, most)

    def test_most_from_1_to_12(self):
        for most in range(1, 13):
            told_trails = trails_from(Table(empties(16, 1)), (0, 0, EAST), most)
            self.assertEqual(told_trails, [([(x, 0, EAST) for x in range(most)], ALL, "on")])

    def test_no_pass(self):
        for p in NO_PASSES:
            with self.subTest(p):
                self.check_refused(NoPass, trails_from, Table(empties(3, 2)), p, 5)

    def test_no_pass_ahead_of_no_most(self):
        for p in NO_PASSES:
            for most in (0, 13, -FAR):
                with self.subTest(p, most=most):
                    self.check_refused(NoPass, trails_from, Table(empties(3, 2)), p, most)

    def test_the_lists_are_the_askers_own(self):
        table = read_table("a\\\n\\/\n\na half / 1/3")
        self.check_own_list(lambda: trails_from(table, (1, 0, EAST), 12))
        for number in range(3):
            self.check_own_list(lambda: trails_from(table, (1, 0, EAST), 9)[number][0])

    def test_the_lists_within_are_apart_from_one_another(self):
        table = read_table("a\n\na half / 1/3")
        trails = trails_from(table, (0, 0, EAST), 2)
        trails[0][0].clear()
        self.assertEqual(trails[1], ([(0, 0, EAST), (1, 0, EAST)], (2, 3), "out"))


if __name__ == "__main__":
    unittest.main()
