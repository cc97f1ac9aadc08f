import unittest

from beamtable.cells import Empty, Fibre, Filter, Half, Mirror, Wall
from beamtable.errors import NoTable, NoText
from beamtable.tables import Table
from beamtable.texts import read_table, shown_table
from tests.cases import Case, empties

LETTERS = "abcdefghijklmnopqrstuvwxyz"
# Of sixty figures each and next to one another, so in lowest terms.
SIXTY = 10 ** 60 - 1
LESS = 10 ** 60 - 2
SIXTY_ONE = 10 ** 60

# Signs that are no figures from 0 to 9, though some of them are figures of other scripts, or powers.
NO_FIGURES = "ax+-._ \n\r\t,:;/'\u0663\u00b2\u0967\uff11\u2460\u00bd\u0000"


def of_rows(*rows):
    return "\n".join(rows)


def telling(row):
    """A text of two like cells, the letter a, that the row tells."""
    return of_rows("aa", "", row)


class ReadCase(Case):
    def check_read(self, text, rows):
        table = read_table(text)
        self.assertIs(type(table), Table)
        self.assertEqual(table.rows(), rows)

    def check_no_text(self, *texts):
        for text in texts:
            with self.subTest(text):
                self.check_refused(NoText, read_table, text)

    def check_no_table(self, *texts):
        for text in texts:
            with self.subTest(text):
                self.check_refused(NoTable, read_table, text)


class Read(ReadCase):
    def test_without_letters(self):
        self.check_read(".", [[("empty",)]])
        self.check_read("/", [[("mirror", 1)]])
        self.check_read("\\", [[("mirror", 3)]])
        self.check_read("#", [[("wall",)]])
        self.check_read("./\n\\#\n##", [
            [("empty",), ("mirror", 1)], [("mirror", 3), ("wall",)], [("wall",), ("wall",)],
        ])

    def test_cells_are_of_their_classes(self):
        table = read_table(of_rows("./\\#", "abcc", "", "a half / 1/2", "b filter 1/2", "c fibre x"))
        kinds = [[Empty, Mirror, Mirror, Wall], [Half, Filter, Fibre, Fibre]]
        for y, row in enumerate(kinds):
            for x, kind in enumerate(row):
                self.assertIs(type(table.cell(x, y)), kind)

    def test_with_letters(self):
        self.check_read("a\n\na half / 1/3", [[("half", 1, (1, 3))]])
        self.check_read("a\n\na half \\ 1/3", [[("half", 3, (1, 3))]])
        self.check_read("a\n\na filter 2/5", [[("filter", (2, 5))]])
        self.check_read("aa\n\na fibre name", [[("fibre", "name"), ("fibre", "name")]])
        self.check_read(of_rows(".a/", "b#c", "cb\\", "", "a half / 1/3", "b fibre abcdefgh", "c filter 10/11"), [
            [("empty",), ("half", 1, (1, 3)), ("mirror", 1)],
            [("fibre", "abcdefgh"), ("wall",), ("filter", (10, 11))],
            [("filter", (10, 11)), ("fibre", "abcdefgh"), ("mirror", 3)],
        ])

    def test_letters_in_any_order(self):
        asked = [[("filter", (1, 2)), ("filter", (1, 3)), ("filter", (1, 4))]]
        tellings = ("m filter 1/2", "a filter 1/3", "z filter 1/4")
        for order in ((0, 1, 2), (0, 2, 1), (1, 0, 2), (1, 2, 0), (2, 0, 1), (2, 1, 0)):
            self.check_read(of_rows("maz", "", *[tellings[k] for k in order]), asked)

    def test_all_letters(self):
        rows = [f"{letter} filter 1/{k + 2}" for k, letter in enumerate(LETTERS)]
        self.check_read(of_rows(LETTERS[:13], LETTERS[13:], "", *rows), [
            [("filter", (1, k + 2)) for k in range(13)], [("filter", (1, k + 2)) for k in range(13, 26)],
        ])

    def test_two_letters_that_tell_like_cells(self):
        self.check_read(of_rows("ab", "", "b filter 1/2", "a filter 1/2"), [[("filter", (1, 2)), ("filter", (1, 2))]])
        table = read_table(of_rows("p.q", "", "p fibre x", "q fibre x"))
        self.assertEqual(table.rows(), [[("fibre", "x"), ("empty",), ("fibre", "x")]])
        self.assertEqual((table.other_end(0, 0), table.other_end(2, 0)), ((2, 0), (0, 0)))

    def test_shares_of_sixty_figures(self):
        self.assertEqual((len(str(SIXTY)), len(str(LESS))), (60, 60))
        self.check_read(f"a\n\na filter {LESS}/{SIXTY}", [[("filter", (LESS, SIXTY))]])
        self.check_read(f"a\n\na filter 1/{SIXTY}", [[("filter", (1, SIXTY))]])
        self.check_read(f"a\n\na half / {LESS}/{SIXTY}", [[("half", 1, (LESS, SIXTY))]])

    def test_the_largest(self):
        self.check_read("\n".join(["." * 16] * 16), [[("empty",)] * 16] * 16)

    def test_names_that_look_like_other_words(self):
        for name in ("half", "fibre", "filter", "a", "zzzzzzzz"):
            self.check_read(telling(f"a fibre {name}"), [[("fibre", name)] * 2])

    def test_the_table_is_new_each_time(self):
        text = of_rows("aa", "", "a fibre x")
        first = read_table(text)
        first.rows().clear()
        self.check_read(text, [[("fibre", "x")] * 2])


class NoTexts(ReadCase):
    def test_no_signs_and_an_empty_first_row(self):
        self.check_no_text("", "\n", "\n.", "\n\n", "\na filter 1/2", "\n\na filter 1/2", "\na\n\na filter 1/2")

    def test_a_row_end_behind_the_last_row(self):
        self.check_no_text(".\n", "..\n..\n", "a\n\na filter 1/2\n", "a\n\na filter 1/2\n\n", ".\n\n", "a\n")

    def test_a_second_empty_row(self):
        self.check_no_text(
            "a\n\n\na filter 1/2", "ab\n\na filter 1/2\n\nb filter 1/3", "a\n\na filter 1/2\n\n.",
            ".\n\n.", ".\n\n.\n\n.", "a\n\n",
        )

    def test_an_empty_row_without_letters(self):
        self.check_no_text(".\n\n", ".\n", "./\n\n", ".\n\na filter 1/2", "..\n\n..", ".\n\n.\n.")

    def test_letters_not_told(self):
        self.check_no_text("a", "a.\n.b", "ab\n\na filter 1/2", "ab\n\nb filter 1/2", ".\nz", "a\n\n", "a\n")

    def test_letters_not_in_the_table(self):
        self.check_no_text(
            "a\n\na filter 1/2\nb filter 1/2", "a\n\nb filter 1/2\na filter 1/2", "a\n\nb filter 1/2",
            ".\n\na filter 1/2", "aa\n\na fibre b\nb fibre b",
        )

    def test_letters_told_twice(self):
        self.check_no_text(
            "a\n\na filter 1/2\na filter 1/2", "a\n\na filter 1/2\na filter 1/3",
            "ab\n\na filter 1/2\nb filter 1/2\na half / 1/2", "aa\n\na fibre x\na fibre x",
        )

    def test_signs_that_are_none(self):
        for sign in " ABZ019-|+%*?:,;'\"`{@[_~\t\r\x0b\x00\u00e9\u00df\u0430\u2028\u2044\u00b7":
            self.check_no_text(sign, sign + ".", "." + sign, ".\n" + sign, f"a{sign}\n\na filter 1/2")
            self.check_no_text(f"{sign}\n\n{sign} filter 1/2")

    def test_blanks_too_many(self):
        self.check_no_text(*[telling(row) for row in (
            " a fibre x", "a  fibre x", "a fibre  x", "a fibre x ", "a filter  1/2", "a filter 1/2 ", "a filter 1 /2",
            "a filter 1/ 2", "a half  / 1/2", "a half /  1/2", "a half / 1/2 ", " a half / 1/2", "a  half / 1/2",
            "a fibre x y", "a half / 1/2 1/2", "a filter 1/2 x", "a half / / 1/2", " ", "  ", "a ", "a fi bre x",
        )])

    def test_blanks_too_few_and_other_ones(self):
        self.check_no_text(*[telling(row) for row in (
            "afibre x", "a fibrex", "afibrex", "a filter1/2", "a half/ 1/2", "a half /1/2", "a half/1/2", "ahalf / 1/2",
            "a\tfibre x", "a fibre\tx", "a filter\u00a01/2", "a fibre x\r", "a\u2003fibre x",
        )])

    def test_words_that_are_none_or_lack(self):
        self.check_no_text(*[telling(row) for row in (
            "a", "a half", "a half /", "a half 1/2", "a filter", "a fibre", "a ", "a filter ", "a fibre ", "a half / ",
            "a halves / 1/2", "a Half / 1/2", "a FILTER 1/2", "a Fibre x", "a empty", "a wall", "a mirror /",
            "a mirror \\", "a filter / 1/2", "a fibre / x", "aa fibre x", "A fibre x", "1 fibre x", ". fibre x",
            "fibre x", "filter 1/2", "half / 1/2", " fibre x", "a: fibre x", "a # 1/2", "a .", "ab fibre x", "a x",
        )])

    def test_letters_told_with_more_than_one_sign(self):
        self.check_no_text("ab\n\nab filter 1/2", "ab\n\na filter 1/2\nb filter 1/2\nab filter 1/2")

    def test_slants(self):
        for sign in ("|", "1", "3", "//", "\\\\", "-", "#", "", "/\\", "a"):
            self.check_no_text(telling(f"a half {sign} 1/2"))

    def check_no_share(self, *shares):
        self.check_no_text(*[telling(f"a filter {share}") for share in shares])
        self.check_no_text(*[telling(f"a half / {share}") for share in shares])

    def test_shares_with_a_0_ahead(self):
        self.check_no_share("01/2", "1/02", "01/02", "001/3", "1/003", "00/1", "0" * 59 + "1/2", "1/" + "0" * 59 + "2")

    def test_shares_not_in_lowest_terms(self):
        self.check_no_share("2/4", "3/6", "6/9", "10/100", f"{SIXTY - 9}/{SIXTY}", "50/60", "35/77")

    def test_shares_not_above_0_and_below_1(self):
        self.check_no_share("0/1", "0/2", "1/1", "2/2", "2/1", "3/2", "-1/2", "1/-2", "-1/-2", "1/0", "0/0")
        self.check_no_share(f"{SIXTY}/{LESS}")

    def test_shares_of_sixty_one_figures(self):
        self.check_no_share(
            f"1/{SIXTY_ONE}", f"{SIXTY_ONE}/{SIXTY_ONE + 1}", f"7/{10 ** 61 + 1}", "1/" + "9" * 5000, "0" * 60 + "1/2",
        )

    def test_shares_of_other_forms(self):
        self.check_no_share("1", "1/", "/2", "/", "//", "1//2", "1/2/3", "1/2/", "/1/2", "0.5", "half", "", "1\\2")

    def test_shares_with_signs_that_are_no_figures(self):
        for sign in NO_FIGURES:
            self.check_no_share(f"{sign}/7", f"{sign}1/23", f"1{sign}/23", f"1{sign}1/234")
            self.check_no_share(f"1/{sign}", f"1/{sign}2", f"1/2{sign}", f"1/2{sign}3")
        self.check_no_share("1_0/11", "+1/2", "1/+2", "\u0661/\u0662", "\uff11/\uff12")

    def test_names_that_are_none(self):
        for name in ("abcdefghi", "A", "aB", "a1", "1", "a-b", "a_b", "\u00e9", "caf\u00e9", "a.", "#", "", "z" * 99):
            self.check_no_text(telling(f"a fibre {name}"))

    def test_a_faulty_row_behind_a_good_one(self):
        self.check_no_text("ab\n\na filter 1/2\nb filter 1/1", "ab\n\nb filter 2/4\na filter 1/2")

    def test_a_faulty_row_of_a_letter_that_is_not_needed(self):
        self.check_no_text(
            "a\n\na filter 1/2\nb filter 2/4", "a\n\nb filter 0/1\na filter 1/2", "aa\n\na fibre x\nb fibre X",
            "a\n\na filter 2/4\na filter 1/2", "a\n\na filter 1/2\na filter 1/1",
        )


class NoTables(ReadCase):
    def test_rows_of_unlike_length(self):
        self.check_no_table("..\n.", ".\n..", "...\n...\n..", "aa\na\n\na filter 1/2", "..\n./#\n..")

    def test_too_many_rows_or_columns(self):
        self.check_no_table("." * 17, "\n".join("." * 17), "\n".join(["." * 17] * 17), "#" * 500)
        self.check_no_table("\n".join("a" * 17) + "\n\na filter 1/2", "a" * 17 + "\n\na filter 1/2")

    def test_fibres_in_one_place_or_three(self):
        self.check_no_table(
            "a\n\na fibre x", "a.\n..\n\na fibre x", "aaa\n\na fibre x", "ab\n\na fibre x\nb fibre y",
            "aab\n\na fibre x\nb fibre x", "abc\n\na fibre x\nb fibre x\nc fibre x", "aa\naa\n\na fibre x",
        )

    def test_no_text_goes_ahead(self):
        self.check_no_text(
            "..\n.\n", "..\n?", "..\n...\n?", "?" * 17, "." * 17 + "\n", "\n".join("." * 17) + "\nA", "..\na",
            "a\n\na fibre x\n", "a\n\na fibre X", "a\n\na  fibre x", "ab\n\na fibre x", "a\n\na fibre x\nb fibre x",
            "ab\n\na fibre x\nb filter 2/4", "ab\n\na fibre x\nb filter 1/1", "a\n\na fibre x\na fibre x",
            "..\n.\n\n", "..\n.\n\na filter 1/2", "aaa\n\na fibre abcdefghi",
            "a\n" + "." * 17 + "\n\na fibre x\nb fibre x",
        )


class Shown(Case):
    def check_shown(self, rows, text):
        table = Table(rows)
        told = shown_table(table)
        self.assertIs(type(told), str)
        self.assertEqual(told, text)
        again = read_table(told)
        self.assertEqual(again.rows(), table.rows())
        self.assertEqual(shown_table(again), text)

    def test_without_letters(self):
        self.check_shown([[Empty()]], ".")
        self.check_shown([[Wall(), Mirror(1)], [Mirror(3), Empty()]], "#/\n\\.")
        self.check_shown(empties(16, 16), "\n".join(["." * 16] * 16))

    def test_all_kinds(self):
        self.check_shown([
            [Empty(), Fibre("name"), Mirror(1), Half(3, (1, 3))],
            [Filter((2, 5)), Wall(), Half(1, (1, 3)), Fibre("name")],
            [Half(3, (1, 3)), Mirror(3), Filter((2, 5)), Filter((2, 7))],
        ], ".a/b\nc#da\nb\\ce\n\na fibre name\nb half \\ 1/3\nc filter 2/5\nd half / 1/3\ne filter 2/7")

    def test_like_cells_have_one_letter(self):
        half = Half(1, (1, 2))
        self.check_shown([[half, Half(1, (1, 2)), half]], "aaa\n\na half / 1/2")
        self.check_shown([[Fibre("b"), Fibre("a")], [Fibre("a"), Fibre("b")]], "ab\nba\n\na fibre b\nb fibre a")

    def test_unlike_cells_have_unlike_letters(self):
        self.check_shown(
            [[Half(1, (1, 2)), Half(3, (1, 2)), Filter((1, 2)), Half(1, (1, 3))]],
            "abcd\n\na half / 1/2\nb half \\ 1/2\nc filter 1/2\nd half / 1/3",
        )

    def test_letters_come_from_above_then_from_the_left(self):
        self.check_shown([
            [Empty(), Empty(), Filter((1, 9))],
            [Filter((1, 8)), Filter((1, 9)), Filter((1, 7))],
            [Filter((1, 6)), Filter((1, 8)), Filter((1, 5))],
        ], "..a\nbac\ndbe\n\na filter 1/9\nb filter 1/8\nc filter 1/7\nd filter 1/6\ne filter 1/5")

    def test_what_was_read_with_other_letters(self):
        table = read_table("zq\nqy\n\ny half / 1/4\nq filter 1/3\nz filter 1/3")
        self.assertEqual(shown_table(table), "aa\nab\n\na filter 1/3\nb half / 1/4")

    def test_twenty_six_letters_and_no_more(self):
        filters = [Filter((1, k + 2)) for k in range(27)]
        fill = [Empty(), Wall(), Mirror(1), Mirror(3)]
        rows = [filters[:13] + fill[:3], filters[13:26] + fill[1:], filters[:16]]
        drawn = of_rows(LETTERS[:13] + ".#/", LETTERS[13:] + "#/\\", LETTERS[:16])
        tellings = [f"{letter} filter 1/{k + 2}" for k, letter in enumerate(LETTERS)]
        self.check_shown(rows, of_rows(drawn, "", *tellings))
        rows[2][15] = filters[26]
        self.check_refused(NoText, shown_table, Table(rows))
        unlike = [[Filter((1, k + 2)) for k in range(first, first + 16)] for first in (0, 16)]
        self.check_refused(NoText, shown_table, Table(unlike))

    def test_twenty_seven_of_all_kinds(self):
        fibres = [Fibre(letter) for letter in LETTERS[:14]]
        halves = [Half(1, (1, k + 2)) for k in range(6)] + [Half(3, (1, k + 2)) for k in range(6)]
        rows = [fibres, fibres, halves + [Wall(), Empty()]]
        self.assertEqual(len(shown_table(Table(rows)).split("\n")), 3 + 1 + 26)
        rows[2][13] = Filter((1, 2))
        self.check_refused(NoText, shown_table, Table(rows))

    def test_shares_of_sixty_figures(self):
        self.check_shown([[Filter((LESS, SIXTY))]], f"a\n\na filter {LESS}/{SIXTY}")
        self.check_shown([[Half(3, (1, SIXTY))]], f"a\n\na half \\ 1/{SIXTY}")

    def test_shares_of_sixty_one_figures(self):
        for share in (
            (1, SIXTY_ONE), (SIXTY, SIXTY_ONE), (SIXTY_ONE, SIXTY_ONE + 1), (1, 10 ** 61), (7, 10 ** 3999),
            (10 ** 3999 - 1, 10 ** 3999),
        ):
            for cell in (Filter(share), Half(1, share), Half(3, share)):
                with self.subTest(cell.__class__.__name__, figures=len(str(share[1]))):
                    self.check_refused(NoText, shown_table, Table([[cell]]))
                    self.check_refused(NoText, shown_table, Table([[Filter((1, 2)), Empty(), cell]]))

    def test_the_table_stays_as_it_was(self):
        table = Table([[Fibre("x"), Half(1, (1, 2))], [Mirror(3), Fibre("x")]])
        before = table.rows()
        self.assertEqual(shown_table(table), shown_table(table))
        self.assertEqual(table.rows(), before)


if __name__ == "__main__":
    unittest.main()
