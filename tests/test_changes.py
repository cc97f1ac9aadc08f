import unittest

from beamtable.cells import Empty, Fibre, Filter, Half, Mirror, Wall
from beamtable.changes import cut_out, downstream, with_cell
from beamtable.errors import Crossed, NoPlace, NoTable
from beamtable.tables import Table
from beamtable.texts import read_table
from tests.cases import Case, empties
from tests.reckoned import Reckoned, random_table, ringing_tables, sample_tables

EAST, NORTH, WEST, SOUTH = 0, 1, 2, 3
FAR = 10 ** 30

CELLS = (Empty(), Mirror(1), Mirror(3), Half(1, (1, 3)), Half(3, (2, 7)), Filter((2, 5)), Wall())


def numbered(width, height):
    """Each cell tells its place."""
    return Table([[Filter((1, 2 + x + 100 * y)) for x in range(width)] for y in range(height)])


def fibred():
    """Of 4 by 3: two fibres, x at (0, 0) and (3, 2), y at (1, 1) and (2, 1)."""
    rows = empties(4, 3)
    rows[0][0] = rows[2][3] = Fibre("x")
    rows[1][1] = rows[1][2] = Fibre("y")
    return Table(rows)


class CutOut(Case):
    def test_every_part(self):
        for width, height in ((1, 1), (4, 1), (1, 4), (4, 3)):
            table = numbered(width, height)
            rows = table.rows()
            for x in range(width):
                for y in range(height):
                    for across in range(1, width - x + 1):
                        for down in range(1, height - y + 1):
                            part = cut_out(table, x, y, across, down)
                            self.assertIs(type(part), Table)
                            self.assertEqual(part.rows(), [row[x:x + across] for row in rows[y:y + down]])
                            self.assertEqual((part.width(), part.height()), (across, down))

    def test_parts_of_a_large_table(self):
        table = numbered(16, 16)
        self.assertEqual(cut_out(table, 0, 0, 16, 16).rows(), table.rows())
        self.assertEqual(cut_out(table, 15, 15, 1, 1).rows(), [[("filter", (1, 1517))]])
        self.assertEqual(cut_out(table, 15, 0, 1, 16).cell(0, 15).row(), ("filter", (1, 1517)))
        self.assertEqual(cut_out(table, 0, 15, 16, 1).cell(15, 0).row(), ("filter", (1, 1517)))

    def test_each_kind_of_cell(self):
        table = Table([list(CELLS), list(reversed(CELLS))])
        self.assertEqual(cut_out(table, 1, 0, 5, 1).rows(), [[cell.row() for cell in CELLS[1:6]]])

    def test_no_columns_or_rows(self):
        table = numbered(4, 3)
        for width, height in ((0, 1), (1, 0), (0, 0), (-1, 1), (1, -1), (-1, -1), (0, 3), (4, 0), (-FAR, 1), (1, -FAR)):
            for x, y in ((0, 0), (1, 1), (3, 2), (4, 3), (-1, 0)):
                with self.subTest(width=width, height=height, x=x, y=y):
                    self.check_refused(NoPlace, cut_out, table, x, y, width, height)

    def test_below_0_though_its_ends_lie_within(self):
        self.check_refused(NoPlace, cut_out, numbered(4, 3), 3, 2, -1, -1)
        self.check_refused(NoPlace, cut_out, numbered(4, 3), 2, 2, 0, 1)

    def test_not_within_the_table(self):
        table = numbered(4, 3)
        near = (
            (-1, 0, 1, 1), (0, -1, 1, 1), (4, 0, 1, 1), (0, 3, 1, 1), (-1, 0, 5, 3), (0, -1, 4, 4), (0, 0, 5, 1),
            (0, 0, 1, 4), (3, 0, 2, 1), (0, 2, 1, 2), (1, 1, 4, 2), (1, 1, 3, 3), (-1, -1, 6, 5),
        )
        far = (
            (0, 0, FAR, 1), (0, 0, 1, FAR), (FAR, 0, 1, 1), (0, FAR, 1, 1), (-FAR, 0, FAR + 1, 1),
            (0, -FAR, 1, FAR + 1),
        )
        for given in near + far:
            with self.subTest(given):
                self.check_refused(NoPlace, cut_out, table, *given)

    def test_crossed(self):
        table = fibred()
        # Only the one end of x or of y, the first one or the last.
        for given in ((0, 0, 1, 1), (3, 2, 1, 1), (0, 0, 4, 2), (0, 1, 4, 2), (0, 0, 3, 3), (1, 0, 3, 3), (1, 1, 1, 1),
                      (2, 1, 1, 1), (1, 0, 1, 3), (0, 0, 2, 3)):
            with self.subTest(given):
                self.check_refused(Crossed, cut_out, table, *given)

    def test_not_crossed(self):
        table = fibred()
        rows = table.rows()
        for x, y, width, height in ((0, 0, 4, 3), (1, 0, 2, 3), (1, 1, 2, 1), (1, 0, 3, 2), (0, 1, 3, 2), (1, 0, 3, 1),
                                    (0, 2, 3, 1), (0, 1, 1, 2), (3, 0, 1, 2), (2, 0, 1, 1)):
            with self.subTest(x=x, y=y, width=width, height=height):
                part = cut_out(table, x, y, width, height)
                self.assertEqual(part.rows(), [row[x:x + width] for row in rows[y:y + height]])
        self.assertEqual(cut_out(table, 1, 1, 2, 1).other_end(0, 0), (1, 0))
        self.assertEqual(cut_out(table, 0, 0, 4, 3).other_end(3, 2), (0, 0))

    def test_both_ends_in_the_columns_or_rows_alone(self):
        # The other end lies in the same columns, but in a row outside, or the other way about.
        table = read_table("a.\n..\na.\n\na fibre x")
        self.check_refused(Crossed, cut_out, table, 0, 0, 1, 2)
        self.check_refused(Crossed, cut_out, table, 0, 1, 2, 2)
        table = read_table("a.a\n\na fibre x")
        self.check_refused(Crossed, cut_out, table, 0, 0, 2, 1)
        self.check_refused(Crossed, cut_out, table, 1, 0, 2, 1)

    def test_no_place_ahead_of_crossed(self):
        table = fibred()
        for given in ((-1, 0, 3, 1), (0, 0, 5, 1), (3, 2, 1, 2), (1, 1, 1, 3), (0, 0, 0, 1), (0, 0, 1, 0),
                      (0, 0, 1, FAR)):
            with self.subTest(given):
                self.check_refused(NoPlace, cut_out, table, *given)

    def test_the_table_handed_in_stays(self):
        table = fibred()
        cut_out(table, 1, 1, 2, 1).rows()[0].clear()
        self.assertEqual(table.rows(), fibred().rows())
        self.assertEqual(table.other_end(0, 0), (3, 2))


class WithCell(Case):
    def test_each_kind_at_each_place(self):
        for width, height in ((1, 1), (4, 1), (1, 4), (4, 3), (16, 16)):
            table = numbered(width, height)
            for x in range(width):
                for y in range(height):
                    for cell in CELLS:
                        asked = table.rows()
                        asked[y][x] = cell.row()
                        told = with_cell(table, x, y, cell)
                        self.assertIs(type(told), Table)
                        self.assertEqual(told.rows(), asked)

    def test_the_table_handed_in_stays(self):
        table = fibred()
        changed = with_cell(table, 1, 0, Wall())
        self.assertEqual(table.rows(), fibred().rows())
        self.assertEqual(with_cell(changed, 1, 0, Empty()).rows(), fibred().rows())
        self.assertEqual(changed.other_end(0, 0), (3, 2))

    def test_no_place(self):
        table = numbered(4, 3)
        for x, y in ((-1, 0), (0, -1), (4, 0), (0, 3), (4, 3), (-1, -1), (FAR, 0), (0, FAR), (-FAR, 0), (0, -FAR)):
            for cell in CELLS + (Fibre("x"),):
                with self.subTest(x=x, y=y, cell=cell.row()):
                    self.check_refused(NoPlace, with_cell, table, x, y, cell)

    def test_a_fibre_cell_that_comes(self):
        for name in ("x", "y", "z"):
            self.check_refused(NoTable, with_cell, fibred(), 1, 0, Fibre(name))
        self.check_refused(NoTable, with_cell, Table(empties(1, 1)), 0, 0, Fibre("x"))

    def test_a_fibre_cell_that_goes(self):
        for x, y in ((0, 0), (3, 2), (1, 1), (2, 1)):
            for cell in CELLS + (Fibre("z"),):
                self.check_refused(NoTable, with_cell, fibred(), x, y, cell)
        self.check_refused(NoTable, with_cell, fibred(), 0, 0, Fibre("y"))

    def test_a_fibre_cell_of_the_same_name(self):
        told = with_cell(fibred(), 0, 0, Fibre("x"))
        self.assertEqual(told.rows(), fibred().rows())
        self.assertEqual(told.other_end(0, 0), (3, 2))

    def test_no_place_ahead_of_no_table(self):
        self.check_refused(NoPlace, with_cell, fibred(), 4, 0, Fibre("x"))
        self.check_refused(NoPlace, with_cell, fibred(), 0, -1, Fibre("z"))


class Downstream(Case):
    def check_downstream(self, text, x, y, asked):
        self.assertEqual(downstream(read_table(text), x, y), sorted(asked))

    def test_of_a_wall(self):
        self.check_downstream("...\n.#.\n...", 1, 1, [])

    def test_of_an_empty_cell(self):
        self.check_downstream(".", 0, 0, [(1, 0, EAST), (0, -1, NORTH), (-1, 0, WEST), (0, 1, SOUTH)])
        self.check_downstream("..", 0, 0, [(1, 0, EAST), (2, 0, EAST), (0, -1, NORTH), (-1, 0, WEST), (0, 1, SOUTH)])

    def test_of_a_mirror_and_a_filter(self):
        rim = [(1, 0, EAST), (0, -1, NORTH), (-1, 0, WEST), (0, 1, SOUTH)]
        self.check_downstream("/", 0, 0, rim)
        self.check_downstream("a\n\na filter 1/9", 0, 0, rim)

    def test_of_a_half(self):
        self.check_downstream("a#\n.\\\n\na half / 1/3", 0, 0, [
            (1, 0, EAST), (0, -1, NORTH), (-1, 0, WEST), (0, 1, SOUTH), (0, 2, SOUTH),
        ])

    def test_of_a_fibre(self):
        # Light that came into it leaves the other end.
        self.check_downstream("a.#\n..a\n\na fibre x", 0, 0, [(3, 1, EAST), (2, 0, NORTH), (1, 1, WEST), (0, 1, WEST),
                                                            (-1, 1, WEST), (2, 2, SOUTH)])
        self.check_downstream("a.#\n..a\n\na fibre x", 2, 1, [(1, 0, EAST), (2, 0, EAST), (0, -1, NORTH), (-1, 0, WEST),
                                                            (0, 1, SOUTH), (0, 2, SOUTH)])

    def test_of_a_place_within_a_ring(self):
        ring = "/\\\n\\/"
        # The passes that come into the place are downstream of it too, by way of the ring.
        self.check_downstream(ring, 0, 0, [
            (1, 0, EAST), (1, 1, SOUTH), (0, 1, WEST), (0, 0, NORTH), (0, 1, SOUTH), (1, 1, EAST), (1, 0, NORTH),
            (0, 0, WEST), (0, -1, NORTH), (-1, 0, WEST),
        ])
        self.check_downstream("aa\n\na fibre x", 1, 0, [
            (1, 0, EAST), (0, -1, NORTH), (0, 1, SOUTH), (-1, 0, WEST),
        ])

    def test_the_passes_into_it_alone_do_not_count(self):
        told = downstream(Table(empties(3, 3)), 1, 1)
        self.assertEqual(told, [
            (-1, 1, WEST), (0, 1, WEST), (1, -1, NORTH), (1, 0, NORTH), (1, 2, SOUTH), (1, 3, SOUTH), (2, 1, EAST),
            (3, 1, EAST),
        ])

    def test_everywhere(self):
        for table in sample_tables() + ringing_tables()[:20] + [random_table(5, 9, 8, 6)]:
            reckoned = Reckoned(table)
            for x in range(table.width()):
                for y in range(table.height()):
                    first = [following for way in range(4) for following in reckoned.onward((x, y, way))]
                    self.assertEqual(downstream(table, x, y), sorted(reckoned.reach(first)))

    def test_no_place(self):
        for x, y in ((-1, 0), (0, -1), (4, 0), (0, 3), (FAR, 0), (0, FAR), (-FAR, 0), (0, -FAR)):
            with self.subTest(x=x, y=y):
                self.check_refused(NoPlace, downstream, fibred(), x, y)

    def test_the_list_is_the_askers_own(self):
        table = fibred()
        self.check_own_list(lambda: downstream(table, 1, 0))
        self.check_own_list(lambda: downstream(Table([[Wall()]]), 0, 0))


if __name__ == "__main__":
    unittest.main()
