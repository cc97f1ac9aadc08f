import unittest
from fractions import Fraction

from beamtable import cells
from beamtable.cells import Cell, Empty, Fibre, Filter, Half, Mirror, Wall
from beamtable.errors import NoCell
from tests.cases import Case

EAST, NORTH, WEST, SOUTH = 0, 1, 2, 3
WAYS = (EAST, NORTH, WEST, SOUTH)
ALL = (1, 1)
NOTHING = (0, 1)
LONG = 10 ** 29 + 57
NEARLY_ALL = (LONG - 1, LONG)
HARDLY_ANY = (1, LONG)

# Drawn by hand: what the slants `/` and `\` make of east, north, west, south.
THROWN = {1: (NORTH, EAST, SOUTH, WEST), 3: (SOUTH, WEST, NORTH, EAST)}

KINDS = ("Empty", "Mirror", "Half", "Filter", "Wall", "Fibre")


def one_of_each():
    return [
        Empty(), Mirror(1), Mirror(3), Half(1, (1, 3)), Half(3, (1, 3)), Half(1, (1, 2)), Half(3, (6, 7)),
        Half(1, NEARLY_ALL), Half(3, HARDLY_ANY), Filter((2, 5)), Filter((1, 2)), Filter(NEARLY_ALL),
        Filter(HARDLY_ANY), Wall(), Fibre("a"), Fibre("abcdefgh"),
    ]


class Kinds(Case):
    def test_each_is_under_cell_and_under_none_of_the_others(self):
        made = {
            "Empty": Empty(), "Mirror": Mirror(1), "Half": Half(1, (1, 2)),
            "Filter": Filter((1, 2)), "Wall": Wall(), "Fibre": Fibre("a"),
        }
        self.assertEqual(tuple(made), KINDS)
        for name, cell in made.items():
            self.assertIsInstance(cell, Cell)
            for other in KINDS:
                with self.subTest(name, other=other):
                    self.assertEqual(isinstance(cell, getattr(cells, other)), name == other)

    def test_fields(self):
        self.assertEqual([Mirror(slant).slant for slant in (1, 3)], [1, 3])
        self.assertEqual((Half(3, (2, 7)).slant, Half(3, (2, 7)).share), (3, (2, 7)))
        self.assertEqual((Half(1, HARDLY_ANY).slant, Half(1, HARDLY_ANY).share), (1, HARDLY_ANY))
        self.assertEqual(Filter((2, 7)).share, (2, 7))
        self.assertEqual(Filter(NEARLY_ALL).share, NEARLY_ALL)
        self.assertEqual(Fibre("name").name, "name")

    def test_fields_are_set_with_what_is_handed_in_by_name(self):
        self.assertEqual(Mirror(slant=3).row(), ("mirror", 3))
        self.assertEqual(Half(share=(1, 4), slant=3).row(), ("half", 3, (1, 4)))
        self.assertEqual(Filter(share=(1, 4)).row(), ("filter", (1, 4)))
        self.assertEqual(Fibre(name="abc").row(), ("fibre", "abc"))


class Rows(Case):
    def test_each_kind(self):
        for cell, asked in (
            (Empty(), ("empty",)),
            (Mirror(1), ("mirror", 1)),
            (Mirror(3), ("mirror", 3)),
            (Half(1, (1, 3)), ("half", 1, (1, 3))),
            (Half(3, NEARLY_ALL), ("half", 3, NEARLY_ALL)),
            (Filter((2, 5)), ("filter", (2, 5))),
            (Filter(HARDLY_ANY), ("filter", HARDLY_ANY)),
            (Wall(), ("wall",)),
            (Fibre("z"), ("fibre", "z")),
            (Fibre("zyxwvuts"), ("fibre", "zyxwvuts")),
        ):
            with self.subTest(asked):
                self.assertIs(type(cell.row()), tuple)
                self.assertEqual(cell.row(), asked)


class Leads(Case):
    def check_leads(self, cell, asked):
        for way in WAYS:
            with self.subTest(cell.row(), way=way):
                self.assertEqual(cell.leads(way), asked(way))

    def test_straight_on(self):
        for cell in (Empty(), Fibre("abc")):
            self.check_leads(cell, lambda way: [(way, ALL)])

    def test_mirrors(self):
        for slant in (1, 3):
            self.check_leads(Mirror(slant), lambda way: [(THROWN[slant][way], ALL)])

    def test_halves(self):
        rising = Half(1, (1, 3))
        self.assertEqual(rising.leads(EAST), [(EAST, (2, 3)), (NORTH, (1, 3))])
        self.assertEqual(rising.leads(NORTH), [(EAST, (1, 3)), (NORTH, (2, 3))])
        self.assertEqual(rising.leads(WEST), [(WEST, (2, 3)), (SOUTH, (1, 3))])
        self.assertEqual(rising.leads(SOUTH), [(WEST, (1, 3)), (SOUTH, (2, 3))])
        falling = Half(3, (1, 3))
        self.assertEqual(falling.leads(EAST), [(EAST, (2, 3)), (SOUTH, (1, 3))])
        self.assertEqual(falling.leads(NORTH), [(NORTH, (2, 3)), (WEST, (1, 3))])
        self.assertEqual(falling.leads(WEST), [(NORTH, (1, 3)), (WEST, (2, 3))])
        self.assertEqual(falling.leads(SOUTH), [(EAST, (1, 3)), (SOUTH, (2, 3))])

    def test_halves_of_long_bottoms(self):
        self.assertEqual(len(str(LONG)), 30)
        self.assertEqual(Half(1, NEARLY_ALL).leads(WEST), [(WEST, (1, LONG)), (SOUTH, (LONG - 1, LONG))])
        self.assertEqual(Half(3, HARDLY_ANY).leads(WEST), [(NORTH, (1, LONG)), (WEST, (LONG - 1, LONG))])

    def test_filters(self):
        for share in ((2, 5), (1, 2), NEARLY_ALL, HARDLY_ANY):
            self.check_leads(Filter(share), lambda way: [(way, share)])

    def test_walls(self):
        self.check_leads(Wall(), lambda way: [])

    def test_form(self):
        for cell in one_of_each():
            for way in WAYS:
                with self.subTest(cell.row(), way=way):
                    told = cell.leads(way)
                    self.assertIs(type(told), list)
                    self.assertEqual([lead[0] for lead in told], sorted({lead[0] for lead in told}))
                    for lead in told:
                        self.assertIs(type(lead), tuple)
                        self.assertEqual(len(lead), 2)
                        self.assertIs(type(lead[0]), int)
                        self.assertIn(lead[0], WAYS)
                        self.check_fraction(lead[1])
                        self.assertGreater(lead[1][0], 0)

    def test_the_list_is_the_askers_own(self):
        for cell in one_of_each():
            for way in WAYS:
                with self.subTest(cell.row(), way=way):
                    self.check_own_list(lambda: cell.leads(way))


class Swallowed(Case):
    def test_each_kind(self):
        for cell in (Empty(), Mirror(1), Mirror(3), Half(1, (1, 3)), Half(3, NEARLY_ALL), Fibre("abc")):
            with self.subTest(cell.row()):
                self.assertEqual(cell.swallows(), NOTHING)
        self.assertEqual(Wall().swallows(), ALL)
        self.assertEqual(Filter((2, 5)).swallows(), (3, 5))
        self.assertEqual(Filter((1, 2)).swallows(), (1, 2))
        self.assertEqual(Filter(NEARLY_ALL).swallows(), (1, LONG))
        self.assertEqual(Filter(HARDLY_ANY).swallows(), (LONG - 1, LONG))

    def test_shares_and_what_is_swallowed_come_to_all_of_it(self):
        for cell in one_of_each():
            self.check_fraction(cell.swallows())
            for way in WAYS:
                with self.subTest(cell.row(), way=way):
                    on = sum(Fraction(*share) for _, share in cell.leads(way))
                    self.assertEqual(on + Fraction(*cell.swallows()), 1)


class Refused(Case):
    def test_slants(self):
        for slant in (0, 2, 4, 5, 7, -1, -3, 10 ** 30 + 1, -(10 ** 30) - 1):
            with self.subTest(slant):
                self.check_refused(NoCell, Mirror, slant)
                self.check_refused(NoCell, Half, slant, (1, 2))

    def test_shares(self):
        for share in (
            (0, 1), (1, 1), (-1, 1), (2, 1), (3, 2), (-1, 2), (-3, 2), (LONG, 1), (-LONG, 1),
            (LONG + 1, LONG), (-1, LONG),
        ):
            with self.subTest(share):
                self.check_refused(NoCell, Filter, share)
                self.check_refused(NoCell, Half, 1, share)
                self.check_refused(NoCell, Half, 3, share)

    def test_both(self):
        self.check_refused(NoCell, Half, 2, (3, 2))

    def test_names_of_no_letters_and_too_many(self):
        for name in ("", "abcdefghi", "a" * 9, "z" * 1000):
            with self.subTest(name):
                self.check_refused(NoCell, Fibre, name)

    def test_names_with_a_sign_that_is_no_letter(self):
        # The signs next to a and z, great and accented letters, figures of two scripts, blanks, row ends.
        for sign in "AZM`{059_-./ \n\t\r\u00e9\u00df\u0131\u0430\u0663\u00aa\u0000%":
            for length in range(1, 9):
                for place in range(length):
                    letters = "abcxyzkm"[:length]
                    name = letters[:place] + sign + letters[place + 1:]
                    with self.subTest(name):
                        self.check_refused(NoCell, Fibre, name)

    def test_names_that_are_some(self):
        for name in ["a", "z", "az", "aaaaaaaa", "abcdefgh", "fibre"] + list("abcdefghijklmnopqrstuvwxyz"):
            with self.subTest(name):
                self.assertEqual(Fibre(name).name, name)

    def test_shares_that_are_some(self):
        for share in ((1, 2), (1, 99), (98, 99), NEARLY_ALL, HARDLY_ANY):
            with self.subTest(share):
                self.assertEqual(Filter(share).share, share)
                self.assertEqual(Half(1, share).share, share)


class Turned(Case):
    def test_once(self):
        for cell, asked in (
            (Empty(), ("empty",)),
            (Mirror(1), ("mirror", 3)),
            (Mirror(3), ("mirror", 1)),
            (Half(1, (1, 3)), ("half", 3, (1, 3))),
            (Half(3, NEARLY_ALL), ("half", 1, NEARLY_ALL)),
            (Filter((2, 5)), ("filter", (2, 5))),
            (Wall(), ("wall",)),
            (Fibre("abc"), ("fibre", "abc")),
        ):
            with self.subTest(asked):
                self.assertEqual(cell.turned().row(), asked)

    def test_its_kind_stays_and_so_does_the_first_one(self):
        for cell in one_of_each():
            before = cell.row()
            with self.subTest(before):
                self.assertIs(type(cell.turned()), type(cell))
                self.assertEqual(cell.row(), before)

    def test_twice_and_four_times(self):
        for cell in one_of_each():
            with self.subTest(cell.row()):
                self.assertEqual(cell.turned().turned().row(), cell.row())
                self.assertEqual(cell.turned().turned().turned().turned().row(), cell.row())

    def test_light_is_turned_with_it(self):
        for cell in one_of_each():
            for way in WAYS:
                with self.subTest(cell.row(), way=way):
                    asked = sorted(((on + 1) % 4, share) for on, share in cell.leads(way))
                    self.assertEqual(cell.turned().leads((way + 1) % 4), asked)
                    self.assertEqual(cell.turned().swallows(), cell.swallows())


if __name__ == "__main__":
    unittest.main()
