import unittest

from beamtable.cells import Empty, Fibre, Filter, Half, Mirror, Wall
from beamtable.errors import NoPass
from beamtable.passes import all_passes, goes_on, inlets, outlets, swallowed_at
from beamtable.tables import Table
from tests.cases import Case, empties

EAST, NORTH, WEST, SOUTH = 0, 1, 2, 3
WAYS = (EAST, NORTH, WEST, SOUTH)
ALL = (1, 1)
NOTHING = (0, 1)
FAR = 10 ** 30
LONG = 10 ** 29 + 57


def alone(cell):
    """The cell in the middle of three by three."""
    rows = empties(3, 3)
    rows[1][1] = cell
    return Table(rows)


def mixed():
    """All kinds of cells, fibres next to one another, at the rim and far apart."""
    return Table([
        [Fibre("a"), Empty(), Mirror(1), Half(1, (1, 3)), Fibre("b")],
        [Half(3, (2, 7)), Filter((2, 5)), Fibre("c"), Fibre("c"), Wall()],
        [Empty(), Mirror(3), Half(1, (LONG - 1, LONG)), Filter((1, LONG)), Half(3, (1, 2))],
        [Fibre("b"), Wall(), Mirror(1), Empty(), Fibre("a")],
    ])


def tables():
    return [
        Table([[Empty()]]), Table([[Wall()]]), Table([[Half(3, (1, 4))]]), Table(empties(16, 16)), mixed(),
        Table([[Fibre("x"), Fibre("x")]]), Table([[Fibre("x")], [Fibre("x")]]),
        Table([[Mirror(1), Filter((1, 9)), Wall(), Half(1, (3, 4))]]),
        Table([[Mirror(3)], [Filter((8, 9))], [Half(3, (3, 4))]]),
    ]


def step(x, y, way):
    across, down = ((1, 0), (0, -1), (-1, 0), (0, 1))[way]
    return (x + across, y + down)


def behind(p):
    """The back of a pass, reckoned apart from the program."""
    x, y, way = p
    opposite = (WEST, SOUTH, EAST, NORTH)[way]
    return step(x, y, opposite) + (opposite,)


def walked(width, height):
    """All passes round and in a table, by looking at each place of a larger square."""
    inside = {(x, y) for x in range(width) for y in range(height)}
    near = [(x, y, way) for x in range(-2, width + 2) for y in range(-2, height + 2) for way in WAYS]
    into = {p for p in near if p[:2] in inside}
    out_of = {p for p in near if behind(p)[:2] in inside}
    return sorted(into | out_of), sorted(into - out_of), sorted(out_of - into)


class Told(Case):
    def test_one_cell(self):
        table = Table([[Wall()]])
        self.assertEqual(inlets(table), [(0, 0, EAST), (0, 0, NORTH), (0, 0, WEST), (0, 0, SOUTH)])
        self.assertEqual(outlets(table), [(-1, 0, WEST), (0, -1, NORTH), (0, 1, SOUTH), (1, 0, EAST)])
        self.assertEqual(all_passes(table), [
            (-1, 0, WEST), (0, -1, NORTH), (0, 0, EAST), (0, 0, NORTH), (0, 0, WEST), (0, 0, SOUTH),
            (0, 1, SOUTH), (1, 0, EAST),
        ])

    def test_one_row(self):
        table = Table([[Empty(), Mirror(1)]])
        self.assertEqual(inlets(table), [
            (0, 0, EAST), (0, 0, NORTH), (0, 0, SOUTH), (1, 0, NORTH), (1, 0, WEST), (1, 0, SOUTH),
        ])
        self.assertEqual(outlets(table), [
            (-1, 0, WEST), (0, -1, NORTH), (0, 1, SOUTH), (1, -1, NORTH), (1, 1, SOUTH), (2, 0, EAST),
        ])
        self.assertEqual(all_passes(table), [
            (-1, 0, WEST), (0, -1, NORTH), (0, 0, EAST), (0, 0, NORTH), (0, 0, WEST), (0, 0, SOUTH), (0, 1, SOUTH),
            (1, -1, NORTH), (1, 0, EAST), (1, 0, NORTH), (1, 0, WEST), (1, 0, SOUTH), (1, 1, SOUTH), (2, 0, EAST),
        ])

    def test_one_column(self):
        table = Table([[Empty()], [Mirror(1)]])
        self.assertEqual(inlets(table), [
            (0, 0, EAST), (0, 0, WEST), (0, 0, SOUTH), (0, 1, EAST), (0, 1, NORTH), (0, 1, WEST),
        ])
        self.assertEqual(outlets(table), [
            (-1, 0, WEST), (-1, 1, WEST), (0, -1, NORTH), (0, 2, SOUTH), (1, 0, EAST), (1, 1, EAST),
        ])

    def test_larger_ones(self):
        for width, height in ((1, 1), (1, 5), (5, 1), (2, 2), (3, 2), (2, 3), (7, 4), (1, 16), (16, 1), (16, 16)):
            with self.subTest(width=width, height=height):
                table = Table(empties(width, height))
                told = (all_passes(table), inlets(table), outlets(table))
                self.assertEqual(told, walked(width, height))
                rim = 2 * (width + height)
                self.assertEqual([len(passes) for passes in told], [4 * width * height + rim, rim, rim])

    def test_fibres_and_walls_change_no_pass(self):
        self.assertEqual((all_passes(mixed()), inlets(mixed()), outlets(mixed())), walked(5, 4))

    def test_form(self):
        for ask in (all_passes, inlets, outlets):
            for p in ask(mixed()):
                self.assertIs(type(p), tuple)
                self.assertEqual([type(part) for part in p], [int, int, int])

    def test_the_lists_are_the_askers_own(self):
        table = mixed()
        for ask in (all_passes, inlets, outlets):
            with self.subTest(ask.__name__):
                self.check_own_list(lambda: ask(table))


class Refused(Case):
    def check_none(self, table, p):
        with self.subTest(p):
            self.check_refused(NoPass, goes_on, table, p)
            self.check_refused(NoPass, swallowed_at, table, p)

    def test_places(self):
        table = Table(empties(3, 2))
        for x, y in ((-1, -1), (3, -1), (-1, 2), (3, 2), (-2, 0), (4, 1), (1, -2), (1, 3), (FAR, 0), (0, -FAR)):
            for way in WAYS:
                self.check_none(table, (x, y, way))

    def test_passes_along_the_rim_and_towards_it_from_nowhere(self):
        table = Table(empties(3, 2))
        for way in (EAST, NORTH, SOUTH):
            self.check_none(table, (-1, 0, way))
        for way in (NORTH, WEST, SOUTH):
            self.check_none(table, (3, 1, way))
        for way in (EAST, WEST, SOUTH):
            self.check_none(table, (1, -1, way))
        for way in (EAST, NORTH, WEST):
            self.check_none(table, (1, 2, way))

    def test_ways(self):
        table = Table(empties(3, 2))
        for way in (-1, -2, -4, 4, 5, 7, FAR, -FAR):
            for x in (-1, 0, 1, 2, 3):
                for y in (-1, 0, 1, 2):
                    self.check_none(table, (x, y, way))

    def test_just_what_is_no_pass(self):
        for table in tables():
            known = set(all_passes(table))
            for x in range(-2, table.width() + 2):
                for y in range(-2, table.height() + 2):
                    for way in range(-1, 5):
                        p = (x, y, way)
                        if p in known:
                            self.assertIs(type(goes_on(table, p)), list)
                            self.check_fraction(swallowed_at(table, p))
                        else:
                            self.check_none(table, p)


class GoesOn(Case):
    def check_on(self, cell, asked):
        for way in WAYS:
            with self.subTest(cell.row(), way=way):
                self.assertEqual(goes_on(alone(cell), (1, 1, way)), asked[way])

    def test_empty(self):
        self.check_on(Empty(), [
            [((2, 1, EAST), ALL)], [((1, 0, NORTH), ALL)], [((0, 1, WEST), ALL)], [((1, 2, SOUTH), ALL)],
        ])

    def test_mirrors(self):
        self.check_on(Mirror(1), [
            [((1, 0, NORTH), ALL)], [((2, 1, EAST), ALL)], [((1, 2, SOUTH), ALL)], [((0, 1, WEST), ALL)],
        ])
        self.check_on(Mirror(3), [
            [((1, 2, SOUTH), ALL)], [((0, 1, WEST), ALL)], [((1, 0, NORTH), ALL)], [((2, 1, EAST), ALL)],
        ])

    def test_halves_in_the_order_of_the_passes(self):
        self.check_on(Half(1, (1, 3)), [
            [((1, 0, NORTH), (1, 3)), ((2, 1, EAST), (2, 3))],
            [((1, 0, NORTH), (2, 3)), ((2, 1, EAST), (1, 3))],
            [((0, 1, WEST), (2, 3)), ((1, 2, SOUTH), (1, 3))],
            [((0, 1, WEST), (1, 3)), ((1, 2, SOUTH), (2, 3))],
        ])
        self.check_on(Half(3, (1, 3)), [
            [((1, 2, SOUTH), (1, 3)), ((2, 1, EAST), (2, 3))],
            [((0, 1, WEST), (1, 3)), ((1, 0, NORTH), (2, 3))],
            [((0, 1, WEST), (2, 3)), ((1, 0, NORTH), (1, 3))],
            [((1, 2, SOUTH), (2, 3)), ((2, 1, EAST), (1, 3))],
        ])

    def test_filter(self):
        self.check_on(Filter((1, LONG)), [
            [((2, 1, EAST), (1, LONG))], [((1, 0, NORTH), (1, LONG))],
            [((0, 1, WEST), (1, LONG))], [((1, 2, SOUTH), (1, LONG))],
        ])

    def test_wall(self):
        self.check_on(Wall(), [[], [], [], []])

    def test_outlets(self):
        for table in tables():
            for p in outlets(table):
                with self.subTest(p):
                    self.assertEqual(goes_on(table, p), [])

    def test_inlets_and_out_again(self):
        table = Table([[Half(1, (1, 4))]])
        self.assertEqual(goes_on(table, (0, 0, EAST)), [((0, -1, NORTH), (1, 4)), ((1, 0, EAST), (3, 4))])
        self.assertEqual(goes_on(table, (0, 0, SOUTH)), [((-1, 0, WEST), (1, 4)), ((0, 1, SOUTH), (3, 4))])

    def test_fibres_far_apart(self):
        rows = empties(5, 4)
        rows[1][1] = Fibre("x")
        rows[2][3] = Fibre("x")
        table = Table(rows)
        self.assertEqual([goes_on(table, (1, 1, way)) for way in WAYS], [
            [((4, 2, EAST), ALL)], [((3, 1, NORTH), ALL)], [((2, 2, WEST), ALL)], [((3, 3, SOUTH), ALL)],
        ])
        self.assertEqual([goes_on(table, (3, 2, way)) for way in WAYS], [
            [((2, 1, EAST), ALL)], [((1, 0, NORTH), ALL)], [((0, 1, WEST), ALL)], [((1, 2, SOUTH), ALL)],
        ])

    def test_fibres_next_to_one_another(self):
        fibre = Fibre("x")
        table = Table([[fibre, fibre]])
        # Eastward into the right cell light leaves the left one, and so comes by the same pass again.
        self.assertEqual([goes_on(table, (0, 0, way)) for way in WAYS], [
            [((2, 0, EAST), ALL)], [((1, -1, NORTH), ALL)], [((0, 0, WEST), ALL)], [((1, 1, SOUTH), ALL)],
        ])
        self.assertEqual([goes_on(table, (1, 0, way)) for way in WAYS], [
            [((1, 0, EAST), ALL)], [((0, -1, NORTH), ALL)], [((-1, 0, WEST), ALL)], [((0, 1, SOUTH), ALL)],
        ])

    def test_fibres_above_one_another(self):
        table = Table([[Fibre("x")], [Fibre("x")]])
        self.assertEqual([goes_on(table, (0, 0, way)) for way in WAYS], [
            [((1, 1, EAST), ALL)], [((0, 0, NORTH), ALL)], [((-1, 1, WEST), ALL)], [((0, 2, SOUTH), ALL)],
        ])
        self.assertEqual([goes_on(table, (0, 1, way)) for way in WAYS], [
            [((1, 0, EAST), ALL)], [((0, -1, NORTH), ALL)], [((-1, 0, WEST), ALL)], [((0, 1, SOUTH), ALL)],
        ])

    def test_fibres_at_the_rim(self):
        rows = empties(4, 3)
        rows[0][0] = Fibre("x")
        rows[2][3] = Fibre("x")
        table = Table(rows)
        self.assertEqual([goes_on(table, (0, 0, way)) for way in WAYS], [
            [((4, 2, EAST), ALL)], [((3, 1, NORTH), ALL)], [((2, 2, WEST), ALL)], [((3, 3, SOUTH), ALL)],
        ])
        self.assertEqual([goes_on(table, (3, 2, way)) for way in WAYS], [
            [((1, 0, EAST), ALL)], [((0, -1, NORTH), ALL)], [((-1, 0, WEST), ALL)], [((0, 1, SOUTH), ALL)],
        ])

    def test_form(self):
        for table in tables():
            known = set(all_passes(table))
            for p in known:
                told = goes_on(table, p)
                self.assertLessEqual(len(told), 2)
                self.assertEqual([on[0] for on in told], sorted({on[0] for on in told}))
                for on in told:
                    self.assertIs(type(on), tuple)
                    self.assertEqual(len(on), 2)
                    self.assertIn(on[0], known)
                    self.check_fraction(on[1])
                    self.assertGreater(on[1][0], 0)

    def test_the_list_is_the_askers_own(self):
        table = mixed()
        for p in all_passes(table):
            with self.subTest(p):
                self.check_own_list(lambda: goes_on(table, p))


class Swallowed(Case):
    def test_each_kind(self):
        for cell, asked in (
            (Empty(), NOTHING), (Mirror(1), NOTHING), (Mirror(3), NOTHING), (Half(1, (1, 3)), NOTHING),
            (Filter((2, 5)), (3, 5)), (Filter((1, LONG)), (LONG - 1, LONG)), (Wall(), ALL),
        ):
            for way in WAYS:
                with self.subTest(cell.row(), way=way):
                    self.assertEqual(swallowed_at(alone(cell), (1, 1, way)), asked)

    def test_fibres_swallow_nothing(self):
        table = Table([[Fibre("x"), Wall(), Fibre("x")]])
        for x in (0, 2):
            for way in WAYS:
                self.assertEqual(swallowed_at(table, (x, 0, way)), NOTHING)

    def test_outlets_of_walls_and_filters(self):
        for cell in (Wall(), Filter((1, 2))):
            table = Table([[cell]])
            for p in outlets(table):
                with self.subTest(cell.row(), p=p):
                    self.assertEqual(swallowed_at(table, p), NOTHING)
            for p in inlets(table):
                with self.subTest(cell.row(), p=p):
                    self.assertEqual(swallowed_at(table, p), cell.swallows())


class BothWays(Case):
    def test_from_e_to_f_as_from_the_back_of_f_to_the_back_of_e(self):
        for table in tables():
            steps = {(e, f, share) for e in all_passes(table) for f, share in goes_on(table, e)}
            self.assertEqual({(behind(f), behind(e), share) for e, f, share in steps}, steps)

    def test_the_tables_have_all_kinds(self):
        rows = mixed().rows()
        self.assertEqual(
            {cell[0] for row in rows for cell in row}, {"empty", "mirror", "half", "filter", "wall", "fibre"}
        )


if __name__ == "__main__":
    unittest.main()
