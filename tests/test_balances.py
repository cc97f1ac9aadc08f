import unittest
from copy import deepcopy
from fractions import Fraction
from random import Random

from beamtable.balances import solved
from beamtable.errors import Loose
from tests.cases import Case
from tests.reckoned import told

ZERO = (0, 1)
ONE = (1, 1)
HALF = (1, 2)
LONG = 10 ** 29 + 57
OTHER_LONG = 10 ** 29 + 319


def reckoned(rows):
    """The one list that fulfils the rows, by plain elimination; None where there is none or more than one."""
    size = len(rows)
    grid = []
    for number, (constant, terms) in enumerate(rows):
        line = [Fraction(0)] * size + [Fraction(*constant)]
        line[number] += 1
        for other, share in terms:
            line[other] -= Fraction(*share)
        grid.append(line)
    for column in range(size):
        pivots = [line for line in range(column, size) if grid[line][column] != 0]
        if not pivots:
            return None
        grid[column], grid[pivots[0]] = grid[pivots[0]], grid[column]
        grid[column] = [part / grid[column][column] for part in grid[column]]
        for line in range(size):
            if line != column and grid[line][column] != 0:
                factor = grid[line][column]
                grid[line] = [one - factor * other for one, other in zip(grid[line], grid[column])]
    return [told(line[-1]) for line in grid]


def random_rows(random, size, names, largest, leaking):
    """Rows in which each number is named so often; all its shares come to 1, or to less in so many cases of ten."""
    terms = [[] for _ in range(size)]
    for number in range(size):
        lines = random.sample(range(size), min(size, random.randrange(names + 1)))
        weights = [random.randrange(1, largest) for _ in lines]
        rest = random.randrange(1, largest) if random.randrange(10) < leaking else 0
        for line, weight in zip(lines, weights):
            terms[line].append((number, told(Fraction(weight, sum(weights) + rest))))
    constants = [told(Fraction(random.choice((0, 0, 1, 5, LONG)), random.randrange(1, 9))) for _ in range(size)]
    for line in terms:
        random.shuffle(line)
    return list(zip(constants, terms))


class BalanceCase(Case):
    def check_fulfilled(self, rows, values):
        self.assertIs(type(values), list)
        self.assertEqual(len(values), len(rows))
        for value in values:
            self.check_fraction(value)
        for (constant, terms), value in zip(rows, values):
            whole = Fraction(*constant) + sum(Fraction(*share) * Fraction(*values[number]) for number, share in terms)
            self.assertEqual(whole, Fraction(*value))

    def check_solved(self, rows, asked):
        self.assertEqual(solved(rows), asked)
        self.check_fulfilled(rows, asked)


class Plain(BalanceCase):
    def test_no_rows(self):
        self.check_solved([], [])

    def test_rows_without_terms(self):
        self.check_solved([((2, 3), [])], [(2, 3)])
        self.check_solved([(ZERO, [])], [ZERO])
        self.check_solved([((2, 3), []), (ZERO, []), ((7, 1), []), ((1, LONG), [])], [(2, 3), ZERO, (7, 1), (1, LONG)])

    def test_chains(self):
        self.check_solved([(ONE, []), (ZERO, [(0, HALF)]), ((1, 3), [(1, (2, 3))])], [ONE, HALF, (2, 3)])
        self.check_solved([((1, 3), [(1, (2, 3))]), (ZERO, [(2, HALF)]), (ONE, [])], [(2, 3), HALF, ONE])
        self.check_solved([(ZERO, [(2, ONE)]), ((5, 1), []), (ZERO, [(1, ONE)])], [(5, 1), (5, 1), (5, 1)])

    def test_a_row_whose_number_no_other_names(self):
        self.check_solved([(ONE, []), ((1, 7), []), (ZERO, [(0, HALF)])], [ONE, (1, 7), HALF])
        # Nothing hangs on 2, which itself hangs on a ring.
        self.check_solved(
            [(ONE, [(1, HALF)]), (ONE, [(0, HALF)]), ((3, 1), [(0, HALF)])], [(2, 1), (2, 1), (4, 1)]
        )

    def test_on_themselves(self):
        self.check_solved([(ONE, [(0, HALF)])], [(2, 1)])
        self.check_solved([(ZERO, [(0, HALF)])], [ZERO])
        self.check_solved([(ONE, [(0, (2, 3))]), ((1, 2), [(1, (1, 4)), (0, (1, 3))])], [(3, 1), (2, 1)])

    def test_rings(self):
        self.check_solved([(ONE, [(1, HALF)]), (ZERO, [(0, HALF)])], [(4, 3), (2, 3)])
        self.check_solved([(ONE, [(2, HALF)]), (ZERO, [(0, ONE)]), (ZERO, [(1, ONE)])], [(2, 1), (2, 1), (2, 1)])
        self.check_solved(
            [(ONE, [(2, (1, 3)), (0, (1, 5))]), (ZERO, [(0, (4, 5))]), ((1, 4), [(1, (1, 2)), (2, (2, 3))])],
            [told(Fraction(25, 8)), told(Fraction(5, 2)), told(Fraction(9, 2))],
        )

    def test_nothing_in_all_constants(self):
        self.check_solved([(ZERO, [(1, HALF)]), (ZERO, [(0, ONE)])], [ZERO, ZERO])

    def test_terms_in_any_order(self):
        self.check_solved([(ONE, [(2, HALF), (1, (1, 3))]), ((6, 1), []), ((8, 1), [])], [(7, 1), (6, 1), (8, 1)])

    def test_large_bottoms(self):
        # x = 1 + y / LONG, y = x / OTHER_LONG
        bottom = LONG * OTHER_LONG - 1
        self.check_solved(
            [(ONE, [(1, (1, LONG))]), (ZERO, [(0, (1, OTHER_LONG))])],
            [told(Fraction(LONG * OTHER_LONG, bottom)), told(Fraction(LONG, bottom))],
        )
        # A ring that loses next to nothing.
        self.check_solved([(ONE, [(1, (LONG - 1, LONG))]), (ZERO, [(0, ONE)])], [(LONG, 1), (LONG, 1)])


class Refused(BalanceCase):
    def test_on_itself_alone(self):
        for constant in (ZERO, ONE, (1, LONG)):
            with self.subTest(constant):
                self.check_refused(Loose, solved, [(constant, [(0, ONE)])])

    def test_rings_of_shares_that_come_to_1(self):
        for constant in (ZERO, ONE):
            for size in (2, 3, 8):
                with self.subTest(constant, size=size):
                    rows = [(ZERO, [((number + 1) % size, ONE)]) for number in range(size)]
                    rows[0] = (constant, rows[0][1])
                    self.check_refused(Loose, solved, rows)

    def test_a_ring_parted_and_joined_again(self):
        # 0 is parted to 1 and 2, and both come back to it whole.
        for constant in (ZERO, (2, 7)):
            rows = [(constant, [(1, ONE), (2, ONE)]), (ZERO, [(0, (1, 3))]), (ZERO, [(0, (2, 3))])]
            with self.subTest(constant):
                self.check_refused(Loose, solved, rows)

    def test_a_ring_to_which_others_come(self):
        for constant in (ZERO, ONE):
            rows = [(constant, []), (ZERO, [(0, HALF), (2, ONE)]), (ZERO, [(1, ONE)])]
            with self.subTest(constant):
                self.check_refused(Loose, solved, rows)

    def test_a_ring_beside_rows_that_are_solved(self):
        rows = [(ONE, []), (ONE, [(1, HALF)]), (ZERO, [(3, ONE)]), (ZERO, [(2, ONE)]), (ONE, [(1, HALF)])]
        self.check_refused(Loose, solved, rows)
        self.check_refused(Loose, solved, rows + [(ZERO, [])])

    def test_a_ring_that_loses_next_to_nothing_is_none(self):
        rows = [(ZERO, [(1, (LONG - 1, LONG))]), (ZERO, [(0, ONE)])]
        self.check_solved(rows, [ZERO, ZERO])


class Many(BalanceCase):
    def test_against_plain_elimination(self):
        random = Random(18)
        loose = 0
        for turn in range(400):
            rows = random_rows(random, 1 + turn % 7, 1 + turn % 4, (3, 12, LONG)[turn % 3], turn % 11)
            asked = reckoned(rows)
            if asked is None:
                loose += 1
                self.check_refused(Loose, solved, rows)
            else:
                self.check_solved(rows, asked)
        self.assertGreater(loose, 30)
        self.assertLess(loose, 300)

    def test_dozens(self):
        random = Random(19)
        for size, names, largest in ((24, 24, 10), (36, 3, 10 ** 6), (48, 2, LONG), (48, 48, 10), (60, 2, 100)):
            with self.subTest(size=size, names=names):
                rows = random_rows(random, size, names, largest, 10)
                self.check_fulfilled(rows, solved(rows))

    def test_dozens_that_are_loose(self):
        random = Random(20)
        rows = random_rows(random, 48, 2, 1000, 10)
        first = len(rows)
        rows += [(ZERO, [(first + 1, ONE), (first + 2, ONE)]), (ZERO, [(first, (1, 3))]), (ONE, [(first, (2, 3))])]
        self.check_refused(Loose, solved, rows)

    def test_two_hundred_in_a_chain_and_in_a_ring(self):
        size = 200
        chain = [(ONE, [])] + [(ZERO, [(number, (9, 10))]) for number in range(size - 1)]
        self.check_solved(chain, [told(Fraction(9, 10) ** number) for number in range(size)])
        backwards = [(ZERO, [(number + 1, HALF)]) for number in range(size - 1)] + [(ONE, [])]
        self.check_solved(backwards, [told(Fraction(1, 2 ** (size - 1 - number))) for number in range(size)])
        ring = [(ONE, [((number + 1) % size, HALF)]) for number in range(size)]
        self.check_solved(ring, [(2, 1)] * size)
        closed = [(ZERO, [((number + 1) % size, ONE)]) for number in range(size)]
        self.check_refused(Loose, solved, closed)
        opened = [(ONE, [(size - 1, HALF)])] + [(ZERO, [(number, ONE)]) for number in range(size - 1)]
        self.check_solved(opened, [(2, 1)] * size)


class Kept(BalanceCase):
    def test_the_rows_stay(self):
        random = Random(21)
        for turn in range(20):
            rows = random_rows(random, 6, 3, 10, turn % 11)
            kept = deepcopy(rows)
            lists = [row[1] for row in rows]
            try:
                solved(rows)
            except Loose:
                pass
            self.assertEqual(rows, kept)
            self.assertTrue(all(row[1] is terms for row, terms in zip(rows, lists)))

    def test_the_list_is_the_askers_own(self):
        rows = [(ONE, [(1, HALF)]), (ZERO, [(0, HALF)])]
        self.check_own_list(lambda: solved(rows))
        values = solved(rows)
        rows[0][1].clear()
        rows.clear()
        self.assertEqual(values, [(4, 3), (2, 3)])
        none = []
        solved(none).append("spoiled")
        self.assertEqual(none, [])


if __name__ == "__main__":
    unittest.main()
