"""Tables and their passes turned a quarter to the left, and seen in a mirror."""

from beamtable.passes import check_pass
from beamtable.tables import Table
from beamtable.ways import EAST, WEST, opposite


def turned_row(table, y):
    # A row of the turned table was a column, the last one first.
    x = table.width() - 1 - y
    return [table.cell(x, above).turned() for above in range(table.height())]


def turned_table(table):
    return Table([turned_row(table, y) for y in range(table.width())])


def turned_pass(table, p):
    check_pass(table, p)
    return (p[1], table.width() - 1 - p[0], (p[2] + 1) % 4)


def seen_row(cells):
    return [cell.turned() for cell in reversed(cells)]


def seen_table(table):
    return Table([seen_row(cells) for cells in table.grid])


def seen_way(way):
    return opposite(way) if way in (EAST, WEST) else way


def seen_pass(table, p):
    check_pass(table, p)
    return (table.width() - 1 - p[0], p[1], seen_way(p[2]))
