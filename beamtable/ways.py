"""The four ways, the cells that lie next each way, and passes (x, y, way)."""

EAST = 0
NORTH = 1
WEST = 2
SOUTH = 3
WAYS = (0, 1, 2, 3)


def opposite(way):
    return way ^ 2


def beyond(x, y, way):
    if way == EAST:
        return (x + 1, y)
    if way == NORTH:
        return (x, y - 1)
    if way == WEST:
        return (x - 1, y)
    return (x, y + 1)


def back_of(p):
    # A pass is told by the cell it comes into, so its back is told by the cell it comes from.
    way = opposite(p[2])
    behind = beyond(p[0], p[1], way)
    return (behind[0], behind[1], way)
