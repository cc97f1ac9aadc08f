import unittest

from beamtable.cells import Empty, Fibre, Filter, Half, Mirror, Wall
from beamtable.errors import NoPlace, NoTable
from beamtable.tables import Table
from tests.cases import Case, empties

FAR = 10 ** 30


def with_fibres(width, height, places):
    """A table of empty cells with fibre cells laid at the places told, a dict of place: name."""
    rows = empties(width, height)
    for (x, y), name in places.items():
        rows[y][x] = Fibre(name)
    return rows


class Sides(Case):
    def test_one_and_sixteen(self):
        for width, height in ((1, 1), (1, 16), (16, 1), (16, 16), (2, 1), (1, 2), (7, 3), (15, 15)):
            with self.subTest(width=width, height=height):
                table = Table(empties(width, height))
                self.assertEqual((table.width(), table.height()), (width, height))
                self.assertIs(type(table.width()), int)
                self.assertIs(type(table.height()), int)
                self.assertEqual(table.rows(), [[("empty",)] * width] * height)

    def test_no_rows_and_too_many(self):
        for rows in ([], empties(1, 17), empties(16, 17), empties(3, 40)):
            with self.subTest(len(rows)):
                self.check_refused(NoTable, Table, rows)

    def test_rows_of_no_cells_and_too_many(self):
        for width, height in ((0, 1), (0, 2), (0, 16), (17, 1), (17, 16), (40, 2)):
            with self.subTest(width=width, height=height):
                self.check_refused(NoTable, Table, empties(width, height))

    def test_rows_of_unlike_length(self):
        for lengths in ((1, 2), (2, 1), (3, 3, 2), (3, 2, 3), (2, 3, 3), (1, 0), (0, 1), (16, 17), (17, 16), (5, 5, 6)):
            with self.subTest(lengths):
                self.check_refused(NoTable, Table, [[Empty() for _ in range(length)] for length in lengths])


class Cells(Case):
    def test_the_cell_at_a_place(self):
        rows = [[Empty(), Mirror(1), Wall()], [Half(3, (1, 3)), Filter((2, 5)), Mirror(3)]]
        table = Table(rows)
        self.assertEqual((table.width(), table.height()), (3, 2))
        for y in range(2):
            for x in range(3):
                with self.subTest(x=x, y=y):
                    self.assertEqual(table.cell(x, y).row(), rows[y][x].row())
                    self.assertIs(type(table.cell(x, y)), type(rows[y][x]))

    def test_rows(self):
        table = Table([[Empty(), Mirror(1), Wall()], [Half(3, (1, 3)), Filter((2, 5)), Mirror(3)]])
        self.assertEqual(table.rows(), [
            [("empty",), ("mirror", 1), ("wall",)],
            [("half", 3, (1, 3)), ("filter", (2, 5)), ("mirror", 3)],
        ])

    def test_one_cell_at_several_places(self):
        mirror = Mirror(3)
        row = [mirror, Wall(), mirror]
        table = Table([row, row])
        self.assertEqual(table.rows(), [[("mirror", 3), ("wall",), ("mirror", 3)]] * 2)
        self.assertEqual(table.cell(2, 1).row(), ("mirror", 3))
        self.assertIsNone(table.other_end(2, 1))

    def test_places_outside(self):
        table = Table(empties(3, 2))
        for x, y in (
            (-1, 0), (3, 0), (0, -1), (0, 2), (-1, 1), (3, 1), (2, -1), (2, 2), (-1, -1), (3, 2), (-1, 2), (3, -1),
            (-2, 0), (-3, 1), (0, -2), (1, 17), (FAR, 0), (-FAR, 0), (0, FAR), (0, -FAR), (FAR, FAR), (-FAR, -FAR),
        ):
            with self.subTest(x=x, y=y):
                self.check_refused(NoPlace, table.cell, x, y)
                self.check_refused(NoPlace, table.other_end, x, y)

    def test_columns_are_not_taken_for_rows(self):
        tall = Table(empties(1, 4))
        self.assertEqual(tall.cell(0, 3).row(), ("empty",))
        self.check_refused(NoPlace, tall.cell, 3, 0)
        self.check_refused(NoPlace, tall.other_end, 3, 0)


class Fibres(Case):
    def test_the_other_end(self):
        table = Table(with_fibres(4, 3, {(0, 0): "a", (3, 2): "a", (1, 2): "long", (2, 0): "long"}))
        asked = {(0, 0): (3, 2), (3, 2): (0, 0), (1, 2): (2, 0), (2, 0): (1, 2)}
        for y in range(3):
            for x in range(4):
                with self.subTest(x=x, y=y):
                    self.assertEqual(table.other_end(x, y), asked.get((x, y)))
        self.assertIs(type(table.other_end(0, 0)), tuple)

    def test_none_where_the_cell_is_no_fibre(self):
        cells = [Empty(), Mirror(1), Mirror(3), Half(1, (1, 2)), Filter((1, 2)), Wall()]
        table = Table([cells])
        for x in range(len(cells)):
            self.assertIsNone(table.other_end(x, 0))

    def test_two_cells_that_are_one(self):
        fibre = Fibre("x")
        table = Table([[fibre, Empty()], [Wall(), fibre]])
        self.assertEqual(table.other_end(0, 0), (1, 1))
        self.assertEqual(table.other_end(1, 1), (0, 0))
        row = [fibre]
        twice = Table([row, row])
        self.assertEqual(twice.other_end(0, 0), (0, 1))
        self.assertEqual(twice.other_end(0, 1), (0, 0))

    def test_many_names(self):
        places = {}
        for x in range(16):
            places[(x, 0)] = places[(15 - x, 15)] = "abcdefghijklmnop"[x] * 8
        table = Table(with_fibres(16, 16, places))
        for x in range(16):
            self.assertEqual(table.other_end(x, 0), (15 - x, 15))
            self.assertEqual(table.other_end(15 - x, 15), (x, 0))

    def test_all_cells_of_one_fibre(self):
        self.assertEqual(Table([[Fibre("a"), Fibre("a")]]).other_end(1, 0), (0, 0))

    def test_one_three_and_four_cells_of_a_name(self):
        for places in (
            {(0, 0): "a"},
            {(0, 0): "a", (1, 1): "b"},
            {(0, 0): "a", (1, 1): "a", (2, 2): "a"},
            {(0, 0): "a", (1, 0): "a", (2, 0): "a", (0, 1): "a"},
            {(0, 0): "a", (1, 1): "a", (2, 2): "b"},
            {(0, 0): "b", (1, 1): "a", (2, 2): "a"},
            {(0, 0): "a", (1, 1): "aa"},
        ):
            with self.subTest(places):
                self.check_refused(NoTable, Table, with_fibres(3, 3, places))

    def test_one_cell_laid_once_and_three_times(self):
        fibre = Fibre("x")
        self.check_refused(NoTable, Table, [[fibre]])
        self.check_refused(NoTable, Table, [[fibre, fibre, fibre]])


class Lists(Case):
    def test_those_handed_in_are_not_changed(self):
        fibre = Fibre("x")
        rows = [[fibre, Empty()], [Wall(), fibre]]
        before = [list(row) for row in rows]
        kept = list(rows)
        Table(rows)
        self.assertEqual(rows, before)
        self.assertTrue(all(one is other for one, other in zip(rows, kept)))

    def test_those_handed_in_may_be_changed_behind(self):
        rows = [[Fibre("x"), Mirror(1)], [Wall(), Fibre("x")]]
        table = Table(rows)
        before = table.rows()
        rows[0][1] = Wall()
        rows[1].clear()
        rows.append([Empty()])
        rows[0].append(Fibre("x"))
        self.assertEqual(table.rows(), before)
        self.assertEqual((table.width(), table.height()), (2, 2))
        self.assertEqual(table.cell(1, 0).row(), ("mirror", 1))
        self.assertEqual(table.other_end(0, 0), (1, 1))
        rows.clear()
        self.assertEqual(table.rows(), before)
        self.check_refused(NoPlace, table.cell, 2, 0)

    def test_those_told_are_new(self):
        table = Table([[Fibre("x"), Mirror(1)], [Wall(), Fibre("x")]])
        self.check_own_list(table.rows)
        before = [list(row) for row in table.rows()]
        for row in table.rows():
            row[0] = ("spoiled",)
            row.append(("spoiled",))
        self.assertEqual(table.rows(), before)
        self.assertEqual((table.width(), table.height()), (2, 2))

    def test_rows_told_of_one_row_laid_twice_are_apart(self):
        row = [Empty()]
        told = Table([row, row]).rows()
        told[0].clear()
        self.assertEqual(told[1], [("empty",)])

    def test_a_refused_list_is_not_changed(self):
        rows = [[Fibre("x"), Mirror(1)], [Wall()]]
        before = [list(row) for row in rows]
        self.check_refused(NoTable, Table, rows)
        self.assertEqual(rows, before)


if __name__ == "__main__":
    unittest.main()
