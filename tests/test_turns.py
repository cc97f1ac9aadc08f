import unittest

from beamtable.cells import Empty, Fibre, Filter, Half, Mirror, Wall
from beamtable.errors import NoPass
from beamtable.passes import all_passes, goes_on, inlets, outlets, swallowed_at
from beamtable.tables import Table
from beamtable.texts import read_table, shown_table
from beamtable.turns import seen_pass, seen_table, turned_pass, turned_table
from beamtable.ways import back_of
from tests.cases import Case, empties
from tests.reckoned import random_table, ringing_tables, sample_tables

EAST, NORTH, WEST, SOUTH = 0, 1, 2, 3
FAR = 10 ** 30

BOTH = ((turned_table, turned_pass), (seen_table, seen_pass))


def mixed():
    """No turn and no mirror leaves it as it is."""
    return Table([
        [Half(1, (1, 3)), Filter((2, 5)), Mirror(1), Wall()],
        [Empty(), Fibre("x"), Half(3, (3, 7)), Mirror(3)],
        [Fibre("y"), Wall(), Fibre("x"), Fibre("y")],
    ])


def tables():
    row = [Mirror(1), Half(3, (1, 4)), Filter((1, 9)), Wall(), Fibre("x"), Empty(), Fibre("x")]
    return sample_tables() + ringing_tables()[:6] + [
        mixed(), Table([row]), Table([[cell] for cell in row]), random_table(3, 16, 16, 8), random_table(4, 16, 2, 2),
    ]


def turned_cell(row):
    """The row of a turned cell, reckoned apart from the program."""
    return (row[0], {1: 3, 3: 1}[row[1]]) + row[2:] if row[0] in ("mirror", "half") else row


class Turned(Case):
    def test_one_cell_of_each_kind(self):
        for cell in (Empty(), Mirror(1), Mirror(3), Half(1, (1, 3)), Half(3, (1, 3)), Filter((2, 5)), Wall()):
            with self.subTest(cell.row()):
                self.assertEqual(turned_table(Table([[cell]])).rows(), [[turned_cell(cell.row())]])

    def test_one_row(self):
        self.assertEqual(shown_table(turned_table(read_table("./\\#"))), "#\n/\n\\\n.")

    def test_one_column(self):
        self.assertEqual(shown_table(turned_table(read_table(".\n/\n\\\n#"))), ".\\/#")

    def test_all_kinds(self):
        turned = turned_table(mixed())
        self.assertEqual(turned.rows(), [
            [("wall",), ("mirror", 1), ("fibre", "y")],
            [("mirror", 3), ("half", 1, (3, 7)), ("fibre", "x")],
            [("filter", (2, 5)), ("fibre", "x"), ("wall",)],
            [("half", 3, (1, 3)), ("empty",), ("fibre", "y")],
        ])
        self.assertEqual(turned.other_end(2, 0), (2, 3))
        self.assertEqual(turned.other_end(1, 2), (2, 1))
        self.assertIsNone(turned.other_end(0, 0))

    def test_each_cell(self):
        for table in tables():
            turned = turned_table(table)
            self.assertIs(type(turned), Table)
            self.assertEqual((turned.width(), turned.height()), (table.height(), table.width()))
            for x in range(table.width()):
                for y in range(table.height()):
                    asked = turned_cell(table.cell(x, y).row())
                    self.assertEqual(turned.cell(y, table.width() - 1 - x).row(), asked)

    def test_four_quarter_turns(self):
        for table in tables():
            twice = turned_table(turned_table(table))
            self.assertEqual(twice.rows(), [row[::-1] for row in reversed(table.rows())])
            self.assertEqual(turned_table(turned_table(twice)).rows(), table.rows())

    def test_the_table_handed_in_stays(self):
        for make in (turned_table, seen_table):
            table = mixed()
            made = make(table)
            made.rows()[0][0] = "spoiled"
            self.assertEqual(table.rows(), mixed().rows())
            self.assertEqual(make(table).rows(), made.rows())


class TurnedPasses(Case):
    def test_each_way(self):
        table = Table(empties(4, 3))
        self.assertEqual(turned_pass(table, (3, 0, EAST)), (0, 0, NORTH))
        self.assertEqual(turned_pass(table, (0, 0, NORTH)), (0, 3, WEST))
        self.assertEqual(turned_pass(table, (1, 2, WEST)), (2, 2, SOUTH))
        self.assertEqual(turned_pass(table, (3, 2, SOUTH)), (2, 0, EAST))

    def test_outlets(self):
        table = Table(empties(4, 3))
        self.assertEqual(turned_pass(table, (4, 1, EAST)), (1, -1, NORTH))
        self.assertEqual(turned_pass(table, (-1, 2, WEST)), (2, 4, SOUTH))
        self.assertEqual(turned_pass(table, (2, -1, NORTH)), (-1, 1, WEST))
        self.assertEqual(turned_pass(table, (0, 3, SOUTH)), (3, 3, EAST))

    def test_four_quarter_turns(self):
        for first in tables():
            for p in all_passes(first):
                table, told = first, p
                for _ in range(4):
                    told = turned_pass(table, told)
                    table = turned_table(table)
                self.assertEqual(told, p)


class Seen(Case):
    def test_one_cell_of_each_kind(self):
        for cell in (Empty(), Mirror(1), Mirror(3), Half(1, (1, 3)), Half(3, (1, 3)), Filter((2, 5)), Wall()):
            with self.subTest(cell.row()):
                self.assertEqual(seen_table(Table([[cell]])).rows(), [[turned_cell(cell.row())]])

    def test_one_row(self):
        self.assertEqual(shown_table(seen_table(read_table("./\\#"))), "#/\\.")

    def test_one_column(self):
        self.assertEqual(shown_table(seen_table(read_table(".\n/\n\\\n#"))), ".\n\\\n/\n#")

    def test_all_kinds(self):
        seen = seen_table(mixed())
        self.assertEqual(seen.rows(), [
            [("wall",), ("mirror", 3), ("filter", (2, 5)), ("half", 3, (1, 3))],
            [("mirror", 1), ("half", 1, (3, 7)), ("fibre", "x"), ("empty",)],
            [("fibre", "y"), ("fibre", "x"), ("wall",), ("fibre", "y")],
        ])
        self.assertEqual(seen.other_end(2, 1), (1, 2))

    def test_each_cell(self):
        for table in tables():
            seen = seen_table(table)
            self.assertIs(type(seen), Table)
            self.assertEqual((seen.width(), seen.height()), (table.width(), table.height()))
            for x in range(table.width()):
                for y in range(table.height()):
                    asked = turned_cell(table.cell(x, y).row())
                    self.assertEqual(seen.cell(table.width() - 1 - x, y).row(), asked)

    def test_twice(self):
        for table in tables():
            self.assertEqual(seen_table(seen_table(table)).rows(), table.rows())


class SeenPasses(Case):
    def test_each_way(self):
        table = Table(empties(4, 3))
        self.assertEqual(seen_pass(table, (3, 0, EAST)), (0, 0, WEST))
        self.assertEqual(seen_pass(table, (0, 0, NORTH)), (3, 0, NORTH))
        self.assertEqual(seen_pass(table, (1, 2, WEST)), (2, 2, EAST))
        self.assertEqual(seen_pass(table, (2, 2, SOUTH)), (1, 2, SOUTH))

    def test_outlets(self):
        table = Table(empties(4, 3))
        self.assertEqual(seen_pass(table, (4, 1, EAST)), (-1, 1, WEST))
        self.assertEqual(seen_pass(table, (-1, 2, WEST)), (4, 2, EAST))
        self.assertEqual(seen_pass(table, (2, -1, NORTH)), (1, -1, NORTH))
        self.assertEqual(seen_pass(table, (0, 3, SOUTH)), (3, 3, SOUTH))

    def test_twice(self):
        for table in tables():
            for p in all_passes(table):
                self.assertEqual(seen_pass(seen_table(table), seen_pass(table, p)), p)


class Together(Case):
    def test_passes_go_with_their_table(self):
        for make, move in BOTH:
            for table in tables():
                made = make(table)
                for ask in (all_passes, inlets, outlets):
                    self.assertEqual(sorted(move(table, p) for p in ask(table)), ask(made))
                for p in all_passes(table):
                    there = move(table, p)
                    self.assertIs(type(there), tuple)
                    self.assertEqual(move(table, back_of(p)), back_of(there))
                    onward = sorted((move(table, following), share) for following, share in goes_on(table, p))
                    self.assertEqual(goes_on(made, there), onward)
                    self.assertEqual(swallowed_at(made, there), swallowed_at(table, p))

    def test_a_turn_between_two_mirrors_is_a_turn_back(self):
        for table in tables():
            told = seen_table(turned_table(seen_table(turned_table(table))))
            self.assertEqual(told.rows(), table.rows())

    def test_no_pass(self):
        # Held to the table that is handed in, not to the one that is made.
        table = Table(empties(4, 2))
        for move in (turned_pass, seen_pass):
            for p in ((5, 5, EAST), (-1, 0, EAST), (4, 0, WEST), (0, 2, NORTH), (1, 3, SOUTH), (0, 0, 4), (0, 0, -1),
                      (0, 0, 5), (FAR, 0, EAST), (0, -FAR, SOUTH)):
                with self.subTest(p, move=move):
                    self.check_refused(NoPass, move, table, p)


if __name__ == "__main__":
    unittest.main()
