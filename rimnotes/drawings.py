"""Pictures drawn with their pairs as rows of signs, and read back from them."""

from rimnotes.errors import BadDrawing
from rimnotes.leaders import cells_of
from rimnotes.pictures import MOST_COLUMNS, MOST_POINTS, MOST_ROWS, picture_with
from rimnotes.sides import side_of
from rimnotes.words import is_name


def drawn(picture, pairs):
    signs = leader_signs(picture, pairs)
    signs.update(rim_signs(picture, pairs))
    for name, x, y, sides, low, high in picture.points():
        signs[(x, y)] = name
    return [row_text(signs, picture.width, row) for row in range(1, picture.height + 1)]


def row_text(signs, width, row):
    return "".join([signs.get((column, row), " ") for column in range(width + 2)])


def leader_signs(picture, pairs):
    signs = {}
    for name, side, row in pairs:
        x, y = picture.place_of(name)
        for cell in cells_of(picture, name, side, row):
            signs[cell] = "#" if cell in signs else leader_sign(cell, x, row)
    return signs


def leader_sign(cell, x, row):
    if cell == (x, row):
        return "+"
    return "|" if cell[0] == x else "-"


def rim_signs(picture, pairs):
    width = picture.width
    signs = dict([((side_of(side, width).rim(), row), ".") for side, row in picture.seats()])
    for name, side, row in pairs:
        signs[(side_of(side, width).rim(), row)] = name
    return signs


class Letters:
    def __init__(self, last_column):
        self.last_column = last_column
        # Each is a dict from a letter to its row and column, counted from 0, in the order in which they were read.
        self.outer = {}
        self.inner = {}

    def is_rim(self, column):
        return column in (0, self.last_column)

    def may_stand(self, row, column, sign):
        if self.is_rim(column):
            return sign in (" ", ".") or (is_name(sign) and sign not in self.outer)
        return sign in (" ", "|", "-", "+", "#") or (is_name(sign) and self.may_lie(row, column, sign))

    def may_lie(self, row, column, name):
        places = [place for other, place in self.inner.items() if place[0] == row or place[1] == column]
        return name not in self.inner and places == [] and len(self.inner) < MOST_POINTS

    def read(self, row, column, sign):
        if not self.may_stand(row, column, sign):
            raise BadDrawing(row, column)
        if is_name(sign):
            letters = self.outer if self.is_rim(column) else self.inner
            letters[sign] = (row, column)


def seen(rows):
    check_texts(rows)
    letters = Letters(len(rows[0]) - 1)
    for row, column, sign in signs_in(rows):
        letters.read(row, column, sign)
    for name, place in letters.outer.items():
        if name not in letters.inner:
            raise BadDrawing(place[0], place[1])
    picture = picture_seen(rows, letters)
    pairs = [(name,) + seat_at(letters.outer[name]) for name in sorted(letters.outer)]
    check_drawing(rows, drawn(picture, pairs))
    return (picture, pairs)


def check_texts(rows):
    if not isinstance(rows, list) or not 1 <= len(rows) <= MOST_ROWS:
        raise BadDrawing(0, 0)
    for row, text in enumerate(rows):
        if not isinstance(text, str) or not 3 <= len(text) <= MOST_COLUMNS + 2 or len(text) != len(rows[0]):
            raise BadDrawing(row, 0)


def signs_in(rows):
    found = []
    for row, text in enumerate(rows):
        found.extend([(row, column, sign) for column, sign in enumerate(text)])
    return found


def seat_at(place):
    row, column = place
    return ("left" if column == 0 else "right", row + 1)


def picture_seen(rows, letters):
    height = len(rows)
    points = [(name, letters.inner[name][1], letters.inner[name][0] + 1, "both", 1, height)
              for name in sorted(letters.inner)]
    seats = [seat_at((row, column)) for row, column, sign in signs_in(rows) if letters.is_rim(column) and sign != " "]
    return picture_with(letters.last_column - 1, height, points, seats)


def check_drawing(rows, drawing):
    for row, column, sign in signs_in(rows):
        if sign != drawing[row][column]:
            raise BadDrawing(row, column)
