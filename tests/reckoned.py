"""What light does, reckoned apart from the program: on the rows that cells tell, with Python's own fractions."""

from fractions import Fraction
from random import Random

from beamtable.cells import Empty, Fibre, Filter, Half, Mirror, Wall
from beamtable.tables import Table

ACROSS = (1, 0, -1, 0)
DOWN = (0, -1, 0, 1)
SHARES = ((1, 2), (1, 3), (2, 5), (6, 7), (1, 10 ** 29 + 57), (10 ** 29 + 6, 10 ** 29 + 57))


def told(number):
    """Python's own fraction as the program tells it."""
    return (number.numerator, number.denominator)


def told_light(strengths):
    """A dict of pass: Fraction, as the program tells light."""
    return [(p, told(strengths[p])) for p in sorted(strengths) if strengths[p] != 0]


class Reckoned:
    def __init__(self, table):
        self.rows = table.rows()
        places = {}
        for y, row in enumerate(self.rows):
            for x, cell in enumerate(row):
                if cell[0] == "fibre":
                    places.setdefault(cell[1], []).append((x, y))
        self.other = {}
        for one, other in places.values():
            self.other[one] = other
            self.other[other] = one

    def has(self, x, y):
        return 0 <= y < len(self.rows) and 0 <= x < len(self.rows[0])

    def passes(self):
        found = set()
        for y, row in enumerate(self.rows):
            for x in range(len(row)):
                for way in range(4):
                    found.add((x, y, way))
                    found.add((x + ACROSS[way], y + DOWN[way], way))
        return sorted(found)

    def kind(self, p):
        """The word of the cell that the pass comes into, None of an outlet."""
        return self.rows[p[1]][p[0]][0] if self.has(p[0], p[1]) else None

    def ways(self, p):
        """A dict of way: share by which light goes on."""
        cell = self.rows[p[1]][p[0]]
        if cell[0] == "wall":
            return {}
        if cell[0] == "filter":
            return {p[2]: Fraction(*cell[1])}
        if cell[0] == "mirror":
            return {p[2] ^ cell[1]: Fraction(1)}
        if cell[0] == "half":
            return {p[2] ^ cell[1]: Fraction(*cell[2]), p[2]: 1 - Fraction(*cell[2])}
        return {p[2]: Fraction(1)}

    def onward(self, p):
        """A dict of pass: share to which light goes on."""
        if not self.has(p[0], p[1]):
            return {}
        x, y = self.other.get(p[:2], p[:2])
        return {(x + ACROSS[way], y + DOWN[way], way): share for way, share in self.ways(p).items()}

    def swallowed(self, p):
        if not self.has(p[0], p[1]):
            return Fraction(0)
        return 1 - sum(self.ways(p).values())


def random_cell(random):
    slant = random.choice((1, 3))
    share = random.choice(SHARES)
    cells = [Empty(), Mirror(slant), Half(slant, share), Filter(share), Wall()]
    return random.choices(cells, weights=(3, 4, 2, 2, 1))[0]


def random_table(seed, width, height, fibres, parting=True):
    """A table of all kinds of cells, always the same of one seed; without half mirrors if parting is False."""
    random = Random(seed)
    rows = [[random_cell(random) for _ in range(width)] for _ in range(height)]
    if not parting:
        rows = [[Mirror(cell.slant) if isinstance(cell, Half) else cell for cell in row] for row in rows]
    places = [(x, y) for x in range(width) for y in range(height)]
    for number, (x, y) in enumerate(random.sample(places, 2 * fibres)):
        rows[y][x] = Fibre("abcdefgh"[number // 2])
    return Table(rows)


def sample_tables(parting=True):
    alone = [Table([[cell]]) for cell in (Empty(), Mirror(1), Filter((2, 5)), Wall())]
    small = [random_table(seed, 2 + seed % 4, 1 + seed % 3, seed % 2, parting) for seed in range(36)]
    large = [random_table(seed, 6, 5, 4, parting) for seed in range(36, 40)]
    ring = Table([[Mirror(1), Mirror(3)], [Mirror(3), Mirror(1)]])
    return alone + small + large + [ring]
