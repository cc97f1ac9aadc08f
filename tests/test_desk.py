import unittest
from fractions import Fraction
from random import Random

from beamtable.desk import Desk
from beamtable.errors import NoRow, Ring
from beamtable.lights import outcome, strengths
from beamtable.passes import all_passes
from beamtable.texts import read_table, shown_table
from tests.cases import Case
from tests.reckoned import random_lamps, random_table, ringing_tables, sample_tables

SIXTY = "1" + "0" * 58 + "1"
SIXTY_ONE = "1" + "0" * 59 + "1"
SIXTY_SHARE = "1" + "0" * 59 + "/" + SIXTY
RING = "table /\\|\\/"
HALF_RING = "table a\\|\\/||a half / 1/3"
ALL_SIGNS = [chr(number) for number in range(32, 127) if number != 37]


def shown(strength):
    top, bottom = strength
    return f"{top}" if bottom == 1 else f"{top}/{bottom}"


def pass_row(p):
    return f"{p[0]} {p[1]} {'enws'[p[2]]}"


def laid(table):
    return "table " + shown_table(table).replace("\n", "|")


class DeskCase(Case):
    def setUp(self):
        self.desk = Desk()

    def check(self, *said):
        """Pairs of a row and its answer, one after the other."""
        for row, answer in said:
            told = self.desk.say(row)
            self.assertIs(type(told), str)
            self.assertEqual((row, told), (row, answer))

    def check_ok(self, *rows):
        self.check(*[(row, "ok") for row in rows])

    def check_no_row(self, *rows):
        for row in rows:
            with self.subTest(row):
                self.check_refused(NoRow, self.desk.say, row)

    def all_told(self):
        """All that may be asked of the desk."""
        return [self.desk.say(row) for row in ("show", "out", "lost")]


class AtFirst(DeskCase):
    def test_a_cell_empty_alone_without_lamps(self):
        self.check(("show", "."), ("out", ""), ("lost", ""), ("at 0 0 e", "0"), ("at 1 0 e", "0"), ("dark", "ok"))
        self.check(("at 1 0 w", "no pass"), ("put 1 0 empty", "no place"))

    def test_desks_are_apart(self):
        other = Desk()
        self.check_ok("lamp 0 0 e 1", "put 0 0 wall")
        self.assertEqual(other.say("show"), ".")
        self.assertEqual(other.say("at 0 0 e"), "0")
        self.assertEqual(Desk().say("lost"), "")


class Tables(DeskCase):
    def test_laid_and_shown(self):
        for text in (".", "/", "\\", "#", "./\\#", ".|/|\\|#", "a||a half / 1/3", "a||a half \\ 1/3", "a||a filter 2/5",
                     "aa||a fibre name", "ab|.#|ba||a half / 1/3|b fibre zzzzzzzz"):
            self.check(("table " + text, "ok"), ("show", text))

    def test_shown_with_letters_in_their_order(self):
        self.check(("table zb||b filter 1/2|z half / 1/3", "ok"), ("show", "ab||a half / 1/3|b filter 1/2"))
        self.check(("table zb||z filter 1/2|b filter 1/2", "ok"), ("show", "aa||a filter 1/2"))

    def test_long_shares(self):
        text = "a||a filter " + SIXTY_SHARE
        self.check(("table " + text, "ok"), ("show", text))

    def test_the_largest(self):
        text = "|".join(["." * 16] * 16)
        self.check(("table " + text, "ok"), ("show", text))

    def test_no_text(self):
        # Whatever follows the blank is the text, another blank too, or nothing at all.
        for text in ("", " ", " .", ". ", ". .", "|", ".|", "|.", ".||", "..||", "a", "ab||a filter 1/2", "A", "x y",
                     "?", "a||a filter 2/4", "a||a filter 1/1", "a||a filter 3/2", "a||a filter 0/2",
                     "a||a filter 1/02",
                     "a||a filter", "a||a filter ", "a||a  filter 1/2", "a||a filter 1/2 ", "a||a half - 1/2",
                     "a||a fibre A", "a||a fibre abcdefghi", "a||a wall", "a||a mirror /", "a||a filter 1/2|",
                     "a||a filter 1/2||", "a||a filter 1/2|a filter 1/2", ".||a filter 1/2", "a|a filter 1/2",
                     "a||a filter 1/" + SIXTY_ONE, "out", "table .", "~", "$", "{}", ".|/ |.", ".;."):
            self.check(("table " + text, "no text"), ("show", "."))

    def test_no_table(self):
        for text in (".|..", "..|.", "." * 17, "|".join(["."] * 17), "a||a fibre x", "aaa||a fibre x",
                     "aab||a fibre x|b fibre x", "ab||a fibre x|b fibre y"):
            self.check(("table " + text, "no table"), ("show", "."))

    def test_no_text_ahead_of_no_table(self):
        self.check(("table .|..|?", "no text"), ("table aaa|.||a fibre X", "no text"), ("table .|..|", "no text"))

    def test_every_sign(self):
        for sign in ALL_SIGNS:
            asked = "ok" if sign in "./\\#" else "no text"
            self.check(("table " + sign, asked))

    def test_lamps_are_put_out(self):
        self.check_ok("lamp 0 0 e 1", "table .")
        self.check(("out", ""), ("at 0 0 e", "0"))
        self.check_ok("lamp 0 0 e 1")
        self.check(("table .|..", "no table"), ("table ", "no text"), ("out", "1 0 e 1"))

    def test_a_ring_is_gone_with_its_lamps(self):
        self.check_ok(RING, "lamp 1 0 e 1", RING)
        self.check(("out", ""), ("lost", ""))

    def test_no_blank_no_text(self):
        self.check_no_row("table", "tables .", " table .", "Table .", "table.", "table|.", "tabl .")

    def test_too_many_letters_to_show(self):
        rows = ["table " + "|".join(["." * 9] * 3)]
        rows += [f"put {number % 9} {number // 9} filter 1/{number + 2}" for number in range(27)]
        self.check_ok(*rows[:-1])
        self.assertEqual(self.desk.say("show")[-13:], "z filter 1/27")
        self.check_ok(rows[-1])
        self.check(("show", "no text"))
        self.check_ok("put 0 0 wall")
        self.assertEqual(self.desk.say("show")[:9], "#abcdefgh")


class Put(DeskCase):
    def test_each_cell(self):
        for cell, text in (("empty", "."), ("wall", "#"), ("mirror /", "/"), ("mirror \\", "\\"),
                           ("half / 1/3", "a||a half / 1/3"), ("half \\ 1/3", "a||a half \\ 1/3"),
                           ("filter 2/5", "a||a filter 2/5"), ("filter " + SIXTY_SHARE, "a||a filter " + SIXTY_SHARE)):
            self.check(("put 0 0 " + cell, "ok"), ("show", text))

    def test_at_each_place(self):
        self.check_ok("table ...|...", "put 2 0 wall", "put 0 1 mirror /", "put 1 1 filter 1/2")
        self.check(("show", "..#|/a.||a filter 1/2"))
        self.check_ok("put 2 0 empty", "put 1 1 empty")
        self.check(("show", "...|/.."))

    def test_a_fibre(self):
        self.check(("put 0 0 fibre x", "no table"), ("show", "."))
        self.check_ok("table a.a||a fibre x")
        for cell in ("empty", "wall", "fibre y", "mirror /", "filter 1/2", "half / 1/2"):
            self.check(("put 0 0 " + cell, "no table"), ("put 2 0 " + cell, "no table"))
        self.check(("put 1 0 fibre x", "no table"), ("put 0 0 fibre x", "ok"), ("show", "a.a||a fibre x"))

    def test_no_place(self):
        self.check_ok("table ...|...")
        for place in ("3 0", "0 2", "-1 0", "0 -1", "9999 0", "0 -9999", "-9999 9999"):
            for cell in ("empty", "wall", "mirror /", "half / 1/3", "filter 1/2", "fibre x"):
                self.check((f"put {place} {cell}", "no place"))
        self.check(("show", "...|..."))

    def test_no_cell(self):
        words = (
            "", "1", "0", "x", "1/1", "2/2", "3/2", "2/4", "0/1", "0/2", "1/0", "01/2", "1/02", "-1/2", "1/-2", "+1/2",
            "1/2/3", "/", "1/", "/2", "1//2", "1.5", "1/" + SIXTY_ONE, SIXTY_ONE + "/" + SIXTY, "half",
            "1/x", "a/b", "1|2", "~",
        )
        for word in words:
            self.check((f"put 0 0 half / {word}", "no cell"), (f"put 0 0 half \\ {word}", "no cell"))
            self.check((f"put 0 0 filter {word}", "no cell"), ("show", "."))
        for word in ("", "A", "a1", "abcdefghi", "a-b", "1", "1/2", "/", "aB", "_", "~"):
            self.check((f"put 0 0 fibre {word}", "no cell"), ("show", "."))

    def test_no_cell_ahead_of_no_place(self):
        self.check(("put 5 5 filter x", "no cell"), ("put -1 0 fibre X", "no cell"), ("put 0 1 half / 2/4", "no cell"))
        self.check(("put 5 5 filter ", "no cell"), ("put 5 5 fibre ", "no cell"), ("put 5 5 half \\ ", "no cell"))

    def test_no_row(self):
        cells = (
            "", " ", "empty ", " empty", "empty 1", "Empty", "wall ", "wall /", "a", ".", "#", "/", "1/2", "none",
            "mirror", "mirror ", "mirror -", "mirror //", "mirror / ", "mirror / 1/2", "mirror  /",
            "half", "half  ", "half /", "half 1/2", "half 1/2 /", "half | 1/2", "half  1/2", "half /  1/2",
            "half / 1/2 ", "half / 1/2 3", "half // 1/2", "Half / 1/2", "halves / 1/2",
            "filter", "filter 1/2 ", "filter  1/2", "filter / 1/2", "a filter 1/2",
            "fibre", "fibre a b", "fibre  a", "fibre a ",
        )
        for place in ("0 0", "5 5"):
            self.check_no_row(*[f"put {place} {cell}" for cell in cells])
        self.check_no_row("put", "put 0", "put 0 0", "put empty", "put 0 empty", "put 0 0 0 empty", "put  0 0 empty",
                          "put 0  0 empty", "put 0 0  empty", " put 0 0 empty", "Put 0 0 empty", "put0 0 empty")
        self.check(("show", "."))

    def test_no_row_ahead_of_no_cell(self):
        self.check_no_row("put x 0 filter x", "put 0 -0 filter x", "put 00 0 fibre X", "put 0 10000 half / x",
                          "put 0 0 half x x")

    def test_lamps_stay(self):
        self.check_ok("table ..", "lamp 0 0 e 3/2", "put 1 0 wall")
        self.check(("out", ""), ("lost", "1 0 3/2"), ("put 1 0 fibre x", "no table"), ("lost", "1 0 3/2"))
        self.check_ok("put 1 0 filter 1/3")
        self.check(("out", "2 0 e 1/2"), ("lost", "1 0 1"))
        self.check_ok("put 0 0 mirror \\")
        self.check(("out", "0 1 s 3/2"), ("lost", ""))


class Lamps(DeskCase):
    def test_one_more_each_time(self):
        self.check_ok("lamp 0 0 e 1")
        self.check(("at 0 0 e", "1"), ("out", "1 0 e 1"))
        self.check_ok("lamp 0 0 e 1/2", "lamp 0 0 n 2/3")
        self.check(("at 0 0 e", "3/2"), ("out", "0 -1 n 2/3; 1 0 e 3/2"))

    def test_on_every_pass(self):
        for p in ("-1 0 w", "0 -1 n", "0 0 e", "0 0 n", "0 0 w", "0 0 s", "0 1 s", "1 0 e"):
            self.check(("dark", "ok"), (f"lamp {p} 4/7", "ok"), (f"at {p}", "4/7"))

    def test_strengths(self):
        for strength in ("1", "9", "10", "1/2", "3/2", "100/7", "10/3", SIXTY, SIXTY + "/2", "1/" + SIXTY, SIXTY_SHARE):
            self.check(("dark", "ok"), (f"lamp 0 0 e {strength}", "ok"), ("at 1 0 e", strength))

    def test_strengths_that_are_none(self):
        words = (
            "", "00", "01", "1/1", "2/1", "0/1", "0/2", "2/4", "4/2", "6/3", "1/0", "0/0", "1/02", "01/2", "+1", "-1",
            "-1/2", "1/-2", "+1/2", "-0", "1/", "/2", "/", "1//2", "1/2/3", "1.5", "x", "1e3", "1_0", "1/x", "1,5",
            "1|2", "half", "0 ", "0" * 60, SIXTY_ONE, "1/" + SIXTY_ONE, SIXTY_ONE + "/2",
        )
        for word in words:
            for p in ("0 0 e", "5 5 e"):
                self.check_no_row(f"lamp {p} {word}")
        self.check(("out", ""))

    def test_no_strength(self):
        self.check(("lamp 0 0 e 0", "no strength"), ("lamp 1 0 e 0", "no strength"), ("out", ""))
        self.check_ok("lamp 0 0 e 1")
        self.check(("lamp 0 0 e 0", "no strength"), ("out", "1 0 e 1"))

    def test_no_pass(self):
        for p in ("1 0 w", "-1 0 e", "0 -1 s", "0 1 n", "2 0 e", "1 1 e", "9999 0 e", "0 -9999 n", "-9999 9999 w"):
            self.check((f"lamp {p} 1", "no pass"), ("out", ""))

    def test_no_pass_ahead_of_no_strength(self):
        self.check(("lamp 5 5 e 0", "no pass"), ("lamp 1 0 w 0", "no pass"))

    def test_no_row(self):
        self.check_no_row("lamp", "lamp ", "lamp 0 0 e", "lamp 0 0 e ", "lamp 0 0 e 1 ", "lamp 0 0 e 1 1", "lamp 0 0 1")
        self.check_no_row("lamp 0 0 0 1", "lamp 0 0 E 1", "lamp 0 0 en 1", "lamp 0 0 es 1", "lamp 0 0 nw 1")
        self.check_no_row("lamp 0 0  1", "lamp 0  0 e 1", "lamp  0 0 e 1", " lamp 0 0 e 1", "Lamp 0 0 e 1")
        self.check_no_row("lamps 0 0 e 1", "lamp 0 0 enws 1", "lamp e 0 0 1")
        self.check(("out", ""))

    def test_the_table_as_it_is(self):
        self.check(("lamp 2 0 e 1", "no pass"))
        self.check_ok("table ..", "lamp 2 0 e 1", "table .")
        self.check(("lamp 2 0 e 1", "no pass"))

    def test_a_lamp_in_a_ring_is_lit(self):
        self.check_ok(RING, "lamp 1 0 e 1", "lamp 1 0 e 1")
        self.check(("lamp 5 5 e 1", "no pass"), ("lamp 1 0 e 0", "no strength"))

    def test_dark(self):
        self.check_ok("lamp 0 0 e 1", "dark")
        self.check(("out", ""), ("lost", ""), ("at 0 0 e", "0"), ("show", "."))
        self.check_ok(RING, "lamp 1 0 e 1", "dark")
        self.check(("out", ""), ("show", "/\\|\\/"))
        self.check_no_row("dark ", " dark", "dark 0", "Dark", "")


class Numbers(DeskCase):
    GOOD = ("0", "1", "9", "10", "99", "999", "1000", "9999", "-1", "-9", "-10", "-9999")
    BAD = (
        "", "-", "--1", "-0", "00", "01", "007", "-01", "-00", "+1", "+0", "10000", "-10000", "99999", "0000", "00001",
        "1.0", "1/2", "x", "e", "1x", "x1", "1-", "0-1", "1_0", "1e1", "10" * 30, "~",
    )

    def test_that_are_some(self):
        for word in self.GOOD:
            for row in (f"at {word} 7000 e", f"at 7000 {word} e", f"lamp {word} 7000 e 1", f"lamp 7000 {word} e 1"):
                self.check((row, "no pass"))
            self.check((f"put {word} 7000 wall", "no place"), (f"put 7000 {word} wall", "no place"))

    def test_that_are_none(self):
        for word in self.BAD:
            for given in (f"{word} 0", f"0 {word}", f"{word} 7000", f"7000 {word}"):
                self.check_no_row(f"at {given} e", f"lamp {given} e 1", f"put {given} wall")

    def test_told_as_they_are_read(self):
        row = "table " + "." * 16
        self.check_ok(row, "lamp 15 0 e 1", "lamp 10 0 n 1", "lamp 0 0 w 1", "lamp 9 0 s 1")
        self.check(("out", "-1 0 w 1; 9 1 s 1; 10 -1 n 1; 16 0 e 1"))


class At(DeskCase):
    def test_with_and_without_light(self):
        self.check_ok(HALF_RING, "lamp 0 0 e 1", "lamp 1 1 s 1/2")
        self.check(("at 0 0 e", "1"), ("at 1 1 s", "7/4"), ("at 1 0 e", "5/4"), ("at 0 -1 n", "3/2"), ("at 0 0 w", "0"),
                   ("at 2 0 e", "0"), ("at 1 0 n", "0"))

    def test_each_way(self):
        self.check_ok("lamp 0 0 e 2", "lamp 0 0 n 3", "lamp 0 0 w 5", "lamp 0 0 s 7")
        self.check(("at 0 0 e", "2"), ("at 0 0 n", "3"), ("at 0 0 w", "5"), ("at 0 0 s", "7"))
        self.check(("at 1 0 e", "2"), ("at 0 -1 n", "3"), ("at -1 0 w", "5"), ("at 0 1 s", "7"))

    def test_as_many_figures_as_it_needs(self):
        self.check_ok("table " + "a" * 16 + "||a filter 1/" + SIXTY, "lamp 0 0 e " + SIXTY_SHARE)
        strength = Fraction(SIXTY_SHARE) / int(SIXTY) ** 16
        self.check(("at 16 0 e", f"{strength.numerator}/{strength.denominator}"))

    def test_no_pass(self):
        for p in ("1 0 w", "2 0 e", "0 -1 s", "0 1 n", "-9999 9999 w"):
            self.check((f"at {p}", "no pass"))

    def test_no_pass_ahead_of_a_ring(self):
        self.check_ok(RING, "lamp 1 0 e 1")
        self.check(("at 5 5 e", "no pass"))
        for p in ("0 0 e", "1 0 e", "1 0 n", "2 0 e"):
            self.check((f"at {p}", "ring 0 0 n"))

    def test_no_row(self):
        self.check_no_row("at", "at ", "at 0 0", "at 0 0 ", "at 0 0 e ", "at 0 0 e 1", "at 0 0 0", "at 0 0 E")
        self.check_no_row("at 0 0 en", "at  0 0 e", "at 0  0 e", "at 0 0  e", " at 0 0 e", "At 0 0 e", "at e 0 0")
        self.check_no_row("at 0 0 enws", "at 0 0 ws", "at0 0 e")


class OutAndLost(DeskCase):
    def test_none_one_and_several(self):
        self.check_ok("table fh#||f filter 2/5|h half / 1/3")
        self.check(("out", ""), ("lost", ""))
        self.check_ok("lamp 1 0 e 3")
        self.check(("out", "1 -1 n 1"), ("lost", "2 0 2"))
        self.check_ok("lamp 0 0 e 1/2", "lamp 3 0 e 7")
        self.check(("out", "1 -1 n 16/15; 3 0 e 7"), ("lost", "0 0 3/10; 2 0 32/15"))

    def test_in_the_order_of_numbers(self):
        self.check_ok("table " + "#" * 11, "lamp 10 0 n 1", "lamp 2 0 n 1", "lamp 2 0 s 1")
        self.check(("lost", "2 0 2; 10 0 1"))

    def test_a_ring(self):
        self.check_ok(RING, "lamp 1 0 n 1")
        self.check(("out", "ring 0 0 w"), ("lost", "ring 0 0 w"), ("at 0 0 e", "ring 0 0 w"))
        self.check_ok("lamp 1 0 e 1")
        self.check(("out", "ring 0 0 n"), ("lost", "ring 0 0 n"), ("show", "/\\|\\/"))

    def test_a_ring_tells_its_least_pass(self):
        self.check_ok("table ./\\|.\\/", "lamp 2 1 s 1")
        self.check(("out", "ring 1 0 n"), ("at 1 0 n", "ring 1 0 n"))
        self.check_ok("table a.a||a fibre x", "lamp 2 0 e 1")
        self.check(("lost", "ring 1 0 e"))
        self.check_ok("dark", "lamp 1 0 w 1")
        self.check(("lost", "ring 0 0 w"))
        self.check_ok("table a|.|a||a fibre x", "lamp 0 2 s 1")
        self.check(("out", "ring 0 1 s"))

    def test_a_ring_comes_and_goes_with_a_cell(self):
        self.check_ok(HALF_RING, "lamp 1 0 e 1")
        self.check(("out", "0 -1 n 1"))
        self.check_ok("put 0 0 mirror /")
        self.check(("out", "ring 0 0 n"))
        self.check_ok("put 1 1 wall")
        self.check(("out", ""), ("lost", "1 1 1"))

    def test_no_row(self):
        for word in ("out", "lost", "show", "dark"):
            self.check_no_row(f"{word} ", f" {word}", f"{word} 0", f"{word}s", f"{word}|", f"{word} {word}")
            self.check_no_row(word.upper(), word[:-1])


class NoRows(DeskCase):
    def test_rows_that_are_none(self):
        self.check_no_row("", " ", "  ", "x", "0", "ok", "ring", "help", "#", "cell 0 0", "no row", ".")
        self.check_no_row("out;", "out lost", "~", "|", "tables", "puts 0 0 wall", "lamp0 0 e 1")

    def test_signs_that_no_row_has(self):
        for number in list(range(32)) + [37, 127, 160, 233, 1632, 8364]:
            sign = chr(number)
            for row in ("{}", "show{}", "{}dark", "table {}", "table .{}", "put 0 0 filter {}", "put 0 0 fibre a{}",
                        "at 0 0 {}", "at {} 0 e", "lamp 0 0 e {}"):
                self.check_no_row(row.replace("{}", sign))
        self.check_no_row("table .\n.")
        self.check(("show", "."))

    def test_nothing_is_changed(self):
        self.check_ok("table .a#||a half / 1/3", "lamp 0 0 e 1/2")
        before = self.all_told()
        self.assertEqual(before, [".a#||a half / 1/3", "1 -1 n 1/6", "2 0 1/3"])
        refused = (
            "table ", "table .|..", "table a", "put 9 0 wall", "put 0 0 fibre x", "put 0 0 filter 2/2", "lamp 9 9 e 1",
            "lamp 0 0 e 0", "at 9 9 e",
        )
        for row in refused:
            self.assertEqual(self.desk.say(row)[:3], "no ")
            self.assertEqual(self.all_told(), before)
        for row in ("table", "put 0 0 walls", "put 0 0 wall ", "lamp 0 0 e 2/4", "dark ", "lamp 0 0 x 1", "table .\t"):
            self.check_no_row(row)
            self.assertEqual(self.all_told(), before)

    def test_asking_changes_nothing(self):
        self.check_ok(HALF_RING, "lamp 1 0 e 2/3")
        before = self.all_told()
        for _ in range(3):
            self.check(("at 1 0 e", "1"), ("at 9 9 e", "no pass"))
            self.assertEqual(self.all_told(), before)


class DeskAll(DeskCase):
    def check_answers(self, table, lamps):
        try:
            light = dict(strengths(table, lamps))
            out, lost = outcome(table, lamps)
        except Ring as refusal:
            answer = "ring " + pass_row(refusal.ring[0])
            self.check(("out", answer), ("lost", answer), ("at " + pass_row(all_passes(table)[0]), answer))
            return
        self.check(("out", "; ".join(f"{pass_row(p)} {shown(strength)}" for p, strength in out)))
        self.check(("lost", "; ".join(f"{x} {y} {shown(strength)}" for (x, y), strength in lost)))
        for p in all_passes(table):
            self.check(("at " + pass_row(p), shown(light.get(p, (0, 1)))))

    def test_light_of_many_tables(self):
        random = Random(31)
        for table in sample_tables() + ringing_tables()[:20] + [random_table(41, 9, 7, 5)]:
            self.check_ok(laid(table))
            lamps = random_lamps(random, all_passes(table), 5)
            for p, strength in lamps:
                self.check_ok(f"lamp {pass_row(p)} {shown(strength)}")
            self.check_answers(table, lamps)
            self.check(("show", shown_table(table).replace("\n", "|")))

    def test_one_cell_after_another(self):
        random = Random(32)
        first = "....|....|...."
        self.check_ok("table " + first)
        lamps = []
        rows = [[(".", "empty")] * 4 for _ in range(3)]
        cells = (
            (".", "empty"), ("#", "wall"), ("/", "mirror /"), ("\\", "mirror \\"), ("h", "half / 1/3"),
            ("k", "half \\ 2/7"), ("f", "filter 2/5"),
        )
        table = read_table(first.replace("|", "\n"))
        for number in range(60):
            if number % 4 == 0:
                lamps += random_lamps(random, all_passes(table), 1)
                self.check_ok("dark", *[f"lamp {pass_row(p)} {shown(strength)}" for p, strength in lamps])
            x, y = random.randrange(4), random.randrange(3)
            rows[y][x] = random.choice(cells)
            self.check_ok(f"put {x} {y} {rows[y][x][1]}")
            letters = sorted({cell for row in rows for cell in row if cell[0].isalpha()})
            text = "\n".join("".join(cell[0] for cell in row) for row in rows)
            if letters:
                text += "\n\n" + "\n".join(f"{sign} {words}" for sign, words in letters)
            table = read_table(text)
            self.check_answers(table, lamps)


if __name__ == "__main__":
    unittest.main()
