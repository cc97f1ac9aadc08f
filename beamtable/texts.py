"""Tables as texts: read and shown."""

from beamtable.cells import LETTERS, Empty, Fibre, Filter, Half, Mirror, Wall
from beamtable.errors import NoCell, NoText
from beamtable.ratios import fraction
from beamtable.tables import Table

FIGURES = "0123456789"
MOST_FIGURES = 60
SLANT_OF_SIGN = {"/": 1, "\\": 3}
SIGN_OF_SLANT = {1: "/", 3: "\\"}
SIGN_OF_ROW = {("empty",): ".", ("mirror", 1): "/", ("mirror", 3): "\\", ("wall",): "#"}


def is_letter(word):
    # LETTERS holds longer words too, such as "ab", and the one without signs.
    return len(word) == 1 and word in LETTERS


def is_number(word):
    if not 1 <= len(word) <= MOST_FIGURES or word[0] == "0":
        return False
    return all([sign in FIGURES for sign in word])


def told_share(word):
    parts = word.split("/")
    if len(parts) != 2 or not all([is_number(part) for part in parts]):
        raise NoCell("a share is told as TOP/BOTTOM")
    share = (int(parts[0]), int(parts[1]))
    if share != fraction(share[0], share[1]):
        raise NoCell("a share is told in lowest terms")
    return share


def told_cell(words):
    # NoText is for the form; NoCell for a word that only stands in the place of a share or a name.
    if len(words) == 3 and words[0] == "half" and words[1] in SLANT_OF_SIGN:
        return Half(SLANT_OF_SIGN[words[1]], told_share(words[2]))
    if len(words) == 2 and words[0] == "filter":
        return Filter(told_share(words[1]))
    if len(words) == 2 and words[0] == "fibre":
        return Fibre(words[1])
    raise NoText("a letter is told as half, filter or fibre")


def told_letters(rows):
    cells = {}
    for row in rows:
        words = row.split(" ")
        letter = words[0]
        if not is_letter(letter) or letter in cells:
            raise NoText("each row tells a letter, each letter once")
        try:
            cells[letter] = told_cell(words[1:])
        except NoCell:
            raise NoText("a share or a name is none") from None
    return cells


def plain_cells():
    return {".": Empty(), "/": Mirror(1), "\\": Mirror(3), "#": Wall()}


def check_drawn(letters, drawn):
    for letter in letters:
        if not any([letter in row for row in drawn]):
            raise NoText("a letter is told that does not stand in the table")


def laid_row(row, cells):
    for sign in row:
        if sign not in cells:
            raise NoText("a sign stands in the table that is none or is not told")
    return [cells[sign] for sign in row]


def read_table(text):
    rows = text.split("\n")
    height = rows.index("") if "" in rows else len(rows)
    if height == 0:
        raise NoText("the first row is empty")
    drawn = rows[:height]
    letters = told_letters(rows[height + 1:])
    if height < len(rows) and letters == {}:
        raise NoText("an empty row stands ahead of letters alone")
    check_drawn(letters, drawn)
    cells = plain_cells()
    cells.update(letters)
    # All rows are laid ahead of the table, so that NoText goes ahead of NoTable.
    grid = [laid_row(row, cells) for row in drawn]
    return Table(grid)


def given_letters(rows):
    letters = {}
    for cells in rows:
        for cell in cells:
            if cell not in SIGN_OF_ROW and cell not in letters:
                if len(letters) == len(LETTERS):
                    raise NoText("more unlike cells than letters")
                letters[cell] = LETTERS[len(letters)]
    return letters


def shown_share(share):
    # Asked of the number, since Python may refuse to write out a long one.
    if max(share) >= 10 ** 60:
        raise NoText("a share has more than sixty figures")
    return str(share[0]) + "/" + str(share[1])


def shown_cell(cell):
    if cell[0] == "half":
        return "half " + SIGN_OF_SLANT[cell[1]] + " " + shown_share(cell[2])
    if cell[0] == "filter":
        return "filter " + shown_share(cell[1])
    return "fibre " + cell[1]


def shown_table(table):
    rows = table.rows()
    letters = given_letters(rows)
    signs = dict(SIGN_OF_ROW)
    signs.update(letters)
    shown = []
    for cells in rows:
        shown.append("".join([signs[cell] for cell in cells]))
    if letters != {}:
        shown.append("")
    for cell, letter in letters.items():
        shown.append(letter + " " + shown_cell(cell))
    return "\n".join(shown)
