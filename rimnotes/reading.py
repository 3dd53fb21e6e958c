"""Pictures that are told by lines: what a line says, and the picture that comes of lines."""

from rimnotes.errors import BadLine
from rimnotes.pictures import Picture


def picture_of(lines):
    if not isinstance(lines, list) or len(lines) == 0:
        raise BadLine(0)
    size = frame_of(words_of(lines[0]))
    if size is None:
        raise BadLine(0)
    width, height = size
    picture = Picture(width, height)
    for number, line in enumerate(lines[1:], start=1):
        do_line(picture, number, words_of(line))
    return picture


def do_line(picture, number, words):
    rows = rows_of(words)
    point = point_of(words)
    if rows is not None:
        for row in rows:
            picture.open_seat(words[0], row)
    elif point is not None:
        name, x, y, sides, low, high = point
        picture.put(name, x, y, sides, low, high)
    else:
        raise BadLine(number)


def words_of(line):
    # What is no line has no words, and no sort of line is without words.
    if not isinstance(line, str):
        return []
    words = line.split(" ")
    return [] if "" in words else words


def frame_of(words):
    if len(words) != 3 or words[0] != "frame":
        return None
    return numbers_of(words[1:])


def rows_of(words):
    if len(words) < 2 or words[0] not in ("left", "right"):
        return None
    spans = [span_of(word) for word in words[1:]]
    if [] in spans:
        return None
    rows = []
    for span in spans:
        rows.extend(span)
    return rows


def span_of(word):
    ends = numbers_of(word.split("-"))
    if ends is None or len(ends) > 2:
        return []
    return list(range(ends[0], ends[-1] + 1))


def point_of(words):
    if len(words) not in (4, 5, 7) or words[0] != "point":
        return None
    numbers = numbers_of(words[2:4] + words[5:])
    if numbers is None:
        return None
    x, y = numbers[:2]
    sides = words[4] if len(words) > 4 else "both"
    low, high = numbers[2:] if len(words) > 5 else (1, None)
    return (words[1], x, y, sides, low, high)


def numbers_of(words):
    numbers = [number_of(word) for word in words]
    return None if None in numbers else numbers


def number_of(word):
    for sign in word:
        if not "0" <= sign <= "9":
            return None
    if len(word) not in (1, 2) or (len(word) == 2 and word[0] == "0"):
        return None
    return int(word)
