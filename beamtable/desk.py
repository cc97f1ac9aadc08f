"""A desk with a table and lamps, which is asked and told by rows of text."""

from beamtable.cells import Empty, Mirror, Wall
from beamtable.changes import with_cell
from beamtable.errors import NoCell, NoPass, NoPlace, NoRow, NoStrength, NoTable, NoText, Ring
from beamtable.flows import light_of
from beamtable.lights import parted_light, strengths
from beamtable.passes import check_pass
from beamtable.ratios import ZERO
from beamtable.tables import Table
from beamtable.texts import SLANT_OF_SIGN, is_number, read_table, shown_table, told_cell, told_share

LETTERS_OF_WAYS = "enws"
MOST_FIGURES_OF_PLACES = 4
FIRST_SIGN = 32
LAST_SIGN = 126
PERCENT_SIGN = 37


def check_signs(row):
    # By their numbers, since a text of the program never holds the percent sign.
    for sign in row:
        if not FIRST_SIGN <= ord(sign) <= LAST_SIGN or ord(sign) == PERCENT_SIGN:
            raise NoRow("a row has signs from the blank to the tilde, without the percent sign")


def told_whole(word):
    figures = word[1:] if word.startswith("-") else word
    if word != "0" and (not is_number(figures) or len(figures) > MOST_FIGURES_OF_PLACES):
        raise NoRow("a whole number of a place has one to four figures")
    return int(word)


def told_way(word):
    if len(word) != 1 or word not in LETTERS_OF_WAYS:
        raise NoRow("a way is e, n, w or s")
    return LETTERS_OF_WAYS.index(word)


def told_pass(words):
    return (told_whole(words[0]), told_whole(words[1]), told_way(words[2]))


def told_strength(word):
    if word == "0":
        return ZERO
    if is_number(word):
        return (int(word), 1)
    try:
        strength = told_share(word)
    except NoCell:
        raise NoRow("a strength is told as TOP or TOP/BOTTOM in lowest terms") from None
    if strength[1] == 1:
        raise NoRow("a whole strength is told without a bottom")
    return strength


def put_cell(words):
    if words == ["empty"]:
        return Empty()
    if words == ["wall"]:
        return Wall()
    if len(words) == 2 and words[0] == "mirror" and words[1] in SLANT_OF_SIGN:
        return Mirror(SLANT_OF_SIGN[words[1]])
    try:
        return told_cell(words)
    except NoText:
        raise NoRow("no cell is told so") from None


def shown_fraction(number):
    return str(number[0]) if number[1] == 1 else str(number[0]) + "/" + str(number[1])


def shown_place(place):
    return str(place[0]) + " " + str(place[1])


def shown_pass(p):
    return shown_place(p) + " " + LETTERS_OF_WAYS[p[2]]


def shown_out(light):
    return "; ".join([shown_pass(p) + " " + shown_fraction(strength) for p, strength in light])


def shown_lost(lost):
    return "; ".join([shown_place(place) + " " + shown_fraction(strength) for place, strength in lost])


class Desk:
    def __init__(self):
        self.stand(Table([[Empty()]]), [])

    def stand(self, table, lamps):
        self.table = table
        self.lamps = lamps
        # The light is reckoned when it is first asked for, and kept until the table or the lamps are others.
        self.light = None

    def say(self, row):
        check_signs(row)
        try:
            return self.answer(row)
        except NoText:
            return "no text"
        except NoTable:
            return "no table"
        except NoPlace:
            return "no place"
        except NoCell:
            return "no cell"
        except NoPass:
            return "no pass"
        except NoStrength:
            return "no strength"
        except Ring as refusal:
            return "ring " + shown_pass(refusal.ring[0])

    def answer(self, row):
        words = row.split(" ")
        if words[0] == "table" and len(words) > 1:
            return self.answer_table(row.partition(" ")[2])
        if words[0] == "put" and len(words) > 3:
            return self.answer_put(words[1:])
        if words[0] == "lamp" and len(words) == 5:
            return self.answer_lamp(words[1:])
        if words[0] == "at" and len(words) == 4:
            return self.answer_at(words[1:])
        return self.answer_word(row)

    def answer_word(self, word):
        if word == "show":
            return shown_table(self.table).replace("\n", "|")
        if word == "dark":
            self.stand(self.table, [])
            return "ok"
        if word == "out":
            return shown_out(parted_light(self.table, self.lit())[0])
        if word == "lost":
            return shown_lost(parted_light(self.table, self.lit())[1])
        raise NoRow("no row is told so")

    def answer_table(self, text):
        self.stand(read_table(text.replace("|", "\n")), [])
        return "ok"

    def answer_put(self, words):
        # All words are read ahead of the deed: a row that is none is refused whatever the table is.
        x = told_whole(words[0])
        y = told_whole(words[1])
        cell = put_cell(words[2:])
        self.stand(with_cell(self.table, x, y, cell), self.lamps)
        return "ok"

    def answer_lamp(self, words):
        lamp = (told_pass(words[:3]), told_strength(words[3]))
        # Asked for its refusals alone.
        light_of(self.table, [lamp])
        self.stand(self.table, self.lamps + [lamp])
        return "ok"

    def answer_at(self, words):
        p = told_pass(words)
        check_pass(self.table, p)
        return shown_fraction(dict(self.lit()).get(p, ZERO))

    def lit(self):
        if self.light is None:
            self.light = strengths(self.table, self.lamps)
        return self.light
