"""Parts cut out of a table, another cell at a place, and what lies downstream of it."""

from beamtable.errors import Crossed, NoPlace
from beamtable.passes import goes_on, reached_from
from beamtable.tables import Table
from beamtable.ways import WAYS


def check_part(table, x, y, width, height):
    if width < 1 or height < 1:
        raise NoPlace("a part has one column and one row at least")
    table.check_place(x, y)
    table.check_place(x + width - 1, y + height - 1)


def cut_out(table, x, y, width, height):
    check_part(table, x, y, width, height)
    for place, other in table.ends.items():
        held = x <= place[0] < x + width and y <= place[1] < y + height
        other_held = x <= other[0] < x + width and y <= other[1] < y + height
        if held != other_held:
            raise Crossed("a fibre leads out of the part")
    return Table([cells[x:x + width] for cells in table.grid[y:y + height]])


def with_cell(table, x, y, cell):
    table.check_place(x, y)
    rows = [list(cells) for cells in table.grid]
    rows[y][x] = cell
    return Table(rows)


def downstream(table, x, y):
    table.check_place(x, y)
    starts = []
    for way in WAYS:
        starts.extend([p for p, share in goes_on(table, (x, y, way))])
    return sorted(reached_from(table, starts))
