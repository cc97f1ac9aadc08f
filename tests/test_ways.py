import unittest

from beamtable.ways import back_of, beyond, opposite

EAST, NORTH, WEST, SOUTH = 0, 1, 2, 3
WAYS = (EAST, NORTH, WEST, SOUTH)
FAR = 10 ** 29 + 3
PLACES = [(0, 0), (3, 5), (-1, 0), (0, -1), (-7, -4), (FAR, -FAR), (-FAR, FAR), (15, 15)]


class Case(unittest.TestCase):
    def check_tuple(self, told, asked):
        self.assertIs(type(told), tuple)
        for number in told:
            self.assertIs(type(number), int)
        self.assertEqual(told, asked)


class Opposites(Case):
    def test_each_way(self):
        self.assertEqual([opposite(way) for way in WAYS], [WEST, SOUTH, EAST, NORTH])

    def test_it_is_a_whole_number(self):
        for way in WAYS:
            self.assertIs(type(opposite(way)), int)

    def test_twice_is_the_way_again(self):
        for way in WAYS:
            self.assertEqual(opposite(opposite(way)), way)


class Beyond(Case):
    def test_each_way(self):
        self.check_tuple(beyond(3, 5, EAST), (4, 5))
        self.check_tuple(beyond(3, 5, NORTH), (3, 4))
        self.check_tuple(beyond(3, 5, WEST), (2, 5))
        self.check_tuple(beyond(3, 5, SOUTH), (3, 6))

    def test_below_0(self):
        self.check_tuple(beyond(-1, -1, EAST), (0, -1))
        self.check_tuple(beyond(0, 0, NORTH), (0, -1))
        self.check_tuple(beyond(0, 0, WEST), (-1, 0))
        self.check_tuple(beyond(-1, -1, SOUTH), (-1, 0))

    def test_thirty_figures(self):
        self.check_tuple(beyond(FAR, -FAR, EAST), (FAR + 1, -FAR))
        self.check_tuple(beyond(FAR, -FAR, NORTH), (FAR, -FAR - 1))
        self.check_tuple(beyond(FAR, -FAR, WEST), (FAR - 1, -FAR))
        self.check_tuple(beyond(FAR, -FAR, SOUTH), (FAR, -FAR + 1))

    def test_there_and_back(self):
        for x, y in PLACES:
            for way in WAYS:
                with self.subTest(x=x, y=y, way=way):
                    there = beyond(x, y, way)
                    self.check_tuple(beyond(there[0], there[1], opposite(way)), (x, y))


class Backs(Case):
    def test_each_way(self):
        self.check_tuple(back_of((3, 5, EAST)), (2, 5, WEST))
        self.check_tuple(back_of((3, 5, NORTH)), (3, 6, SOUTH))
        self.check_tuple(back_of((3, 5, WEST)), (4, 5, EAST))
        self.check_tuple(back_of((3, 5, SOUTH)), (3, 4, NORTH))

    def test_at_and_below_0(self):
        self.check_tuple(back_of((0, 0, EAST)), (-1, 0, WEST))
        self.check_tuple(back_of((0, 0, SOUTH)), (0, -1, NORTH))
        self.check_tuple(back_of((-1, -1, WEST)), (0, -1, EAST))
        self.check_tuple(back_of((-1, -1, NORTH)), (-1, 0, SOUTH))

    def test_thirty_figures(self):
        self.check_tuple(back_of((FAR, -FAR, EAST)), (FAR - 1, -FAR, WEST))
        self.check_tuple(back_of((FAR, -FAR, SOUTH)), (FAR, -FAR - 1, NORTH))

    def test_the_back_comes_into_the_cell_behind(self):
        for x, y in PLACES:
            for way in WAYS:
                with self.subTest(x=x, y=y, way=way):
                    behind = beyond(x, y, opposite(way))
                    self.check_tuple(back_of((x, y, way)), behind + (opposite(way),))

    def test_the_back_of_the_back(self):
        for x, y in PLACES:
            for way in WAYS:
                with self.subTest(x=x, y=y, way=way):
                    self.check_tuple(back_of(back_of((x, y, way))), (x, y, way))


if __name__ == "__main__":
    unittest.main()
