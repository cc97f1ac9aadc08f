"""Tables: rows of cells, with the two ends of each fibre."""

from beamtable.cells import Fibre
from beamtable.errors import NoPlace, NoTable

LONGEST_SIDE = 16


def check_sides(grid):
    if not 1 <= len(grid) <= LONGEST_SIDE:
        raise NoTable("a table has 1 to 16 rows")
    for cells in grid:
        if not 1 <= len(cells) <= LONGEST_SIDE:
            raise NoTable("a row has 1 to 16 cells")
        if len(cells) != len(grid[0]):
            raise NoTable("the rows are of unlike length")


def fibre_places(grid):
    places = {}
    for y, cells in enumerate(grid):
        for x, cell in enumerate(cells):
            if isinstance(cell, Fibre):
                places.setdefault(cell.name, []).append((x, y))
    return places


def fibre_ends(grid):
    ends = {}
    for name, places in fibre_places(grid).items():
        if len(places) != 2:
            raise NoTable(f"of the fibre {name} there are not just two cells")
        ends[places[0]] = places[1]
        ends[places[1]] = places[0]
    return ends


class Table:
    def __init__(self, rows):
        self.grid = tuple([tuple(cells) for cells in rows])
        check_sides(self.grid)
        # Ends are kept by place, not by cell: both ends may be one and the same cell.
        self.ends = fibre_ends(self.grid)

    def width(self):
        return len(self.grid[0])

    def height(self):
        return len(self.grid)

    def has_place(self, x, y):
        return 0 <= x < self.width() and 0 <= y < self.height()

    def check_place(self, x, y):
        if not self.has_place(x, y):
            raise NoPlace("the table has no such place")

    def cell(self, x, y):
        self.check_place(x, y)
        return self.grid[y][x]

    def other_end(self, x, y):
        self.check_place(x, y)
        return self.ends.get((x, y))

    def rows(self):
        told = []
        for cells in self.grid:
            told.append([cell.row() for cell in cells])
        return told
