"""What light does, reckoned apart from the program: on the rows that cells tell, with Python's own fractions."""

from fractions import Fraction
from random import Random

from beamtable.cells import Empty, Fibre, Filter, Half, Mirror, Wall
from beamtable.tables import Table

ACROSS = (1, 0, -1, 0)
DOWN = (0, -1, 0, 1)
LONG = 10 ** 29 + 57
SHARES = ((1, 2), (1, 3), (2, 5), (6, 7), (1, LONG), (LONG - 50, LONG))


def told(number):
    """Python's own fraction as the program tells it."""
    return (number.numerator, number.denominator)


def told_light(strengths):
    """A dict of pass: Fraction, as the program tells light."""
    return [(p, told(strengths[p])) for p in sorted(strengths) if strengths[p] != 0]


class Reckoned:
    def __init__(self, table):
        self.rows = table.rows()
        places = {}
        for y, row in enumerate(self.rows):
            for x, cell in enumerate(row):
                if cell[0] == "fibre":
                    places.setdefault(cell[1], []).append((x, y))
        self.other = {}
        for one, other in places.values():
            self.other[one] = other
            self.other[other] = one

    def has(self, x, y):
        return 0 <= y < len(self.rows) and 0 <= x < len(self.rows[0])

    def passes(self):
        found = set()
        for y, row in enumerate(self.rows):
            for x in range(len(row)):
                for way in range(4):
                    found.add((x, y, way))
                    found.add((x + ACROSS[way], y + DOWN[way], way))
        return sorted(found)

    def kind(self, p):
        """The word of the cell that the pass comes into, None of an outlet."""
        return self.rows[p[1]][p[0]][0] if self.has(p[0], p[1]) else None

    def ways(self, p):
        """A dict of way: share by which light goes on."""
        cell = self.rows[p[1]][p[0]]
        if cell[0] == "wall":
            return {}
        if cell[0] == "filter":
            return {p[2]: Fraction(*cell[1])}
        if cell[0] == "mirror":
            return {p[2] ^ cell[1]: Fraction(1)}
        if cell[0] == "half":
            return {p[2] ^ cell[1]: Fraction(*cell[2]), p[2]: 1 - Fraction(*cell[2])}
        return {p[2]: Fraction(1)}

    def onward(self, p):
        """A dict of pass: share to which light goes on."""
        if not self.has(p[0], p[1]):
            return {}
        x, y = self.other.get(p[:2], p[:2])
        return {(x + ACROSS[way], y + DOWN[way], way): share for way, share in self.ways(p).items()}

    def swallowed(self, p):
        if not self.has(p[0], p[1]):
            return Fraction(0)
        return 1 - sum(self.ways(p).values())

    def reach(self, starts):
        """The set of all passes that light comes to, these included."""
        found = set(starts)
        fresh = found
        while fresh:
            fresh = {following for p in fresh for following in self.onward(p)} - found
            found |= fresh
        return found

    def caught(self, p):
        return not {self.kind(following) for following in self.reach([p])} & {None, "wall", "filter"}

    def arrived(self, lamps, light):
        """A dict of pass: Fraction, what the lamps give it and what of the light comes to it by shares."""
        found = {}
        for p, strength in lamps:
            found[p] = found.get(p, 0) + Fraction(*strength)
        for p, strength in light:
            for following, share in self.onward(p).items():
                found[following] = found.get(following, 0) + Fraction(*strength) * share
        return found


def random_cell(random):
    slant = random.choice((1, 3))
    share = random.choice(SHARES)
    cells = [Empty(), Mirror(slant), Half(slant, share), Filter(share), Wall()]
    return random.choices(cells, weights=(3, 4, 2, 2, 1))[0]


def random_table(seed, width, height, fibres, parting=True):
    """A table of all kinds of cells, always the same of one seed; without half mirrors if parting is False."""
    random = Random(seed)
    rows = [[random_cell(random) for _ in range(width)] for _ in range(height)]
    if not parting:
        rows = [[Mirror(cell.slant) if isinstance(cell, Half) else cell for cell in row] for row in rows]
    places = [(x, y) for x in range(width) for y in range(height)]
    for number, (x, y) in enumerate(random.sample(places, 2 * fibres)):
        rows[y][x] = Fibre("abcdefgh"[number // 2])
    return Table(rows)


def random_strength(random):
    if random.random() < 0.2:
        return told(Fraction(random.randrange(1, LONG), LONG))
    return told(Fraction(random.randrange(1, 40), random.randrange(1, 40)))


def random_lamps(random, passes, most):
    """Some lamps, in any order, now and then several on one pass; none where there are no passes."""
    count = random.randrange(most + 1) if passes else 0
    return [(random.choice(passes), random_strength(random)) for _ in range(count)]


def ringing_table(seed):
    """Light within it never comes out: fibres at the rim take it round. In some a cell swallows it, in others none."""
    random = Random(seed)
    width, height = random.choice(((2, 2), (3, 2), (2, 3), (3, 3), (4, 3)))
    rows = [[Empty() for _ in range(width + 2)] for _ in range(height + 2)]
    for y in range(1, height + 1):
        rows[y][0] = rows[y][width + 1] = Fibre("y" + "abcd"[y - 1])
        for x in range(1, width + 1):
            slant = random.choice((1, 3))
            cells = [Empty(), Mirror(slant), Half(slant, random.choice(SHARES))]
            rows[y][x] = random.choices(cells, weights=(1, 4, 2))[0]
    for x in range(1, width + 1):
        rows[0][x] = rows[height + 1][x] = Fibre("x" + "abcd"[x - 1])
    if seed % 3 == 0:
        rows[1][1] = random.choice((Wall(), Filter(random.choice(SHARES))))
    return Table(rows)


def sample_tables(parting=True):
    alone = [Table([[cell]]) for cell in (Empty(), Mirror(1), Filter((2, 5)), Wall())]
    small = [random_table(seed, 2 + seed % 4, 1 + seed % 3, seed % 2, parting) for seed in range(36)]
    large = [random_table(seed, 6, 5, 4, parting) for seed in range(36, 40)]
    ring = Table([[Mirror(1), Mirror(3)], [Mirror(3), Mirror(1)]])
    return alone + small + large + [ring]


def ringing_tables():
    return [ringing_table(seed) for seed in range(60)]
