"""Pictures written as lines, by as few words as can be."""


def lines_of(picture):
    width = picture.width
    height = picture.height
    lines = [f"frame {width} {height}"]
    for rim in ("left", "right"):
        rows = [row for side, row in picture.seats() if side == rim]
        if rows:
            lines.append(" ".join([rim] + spans_of(rows)))
    return lines + [point_line(point, height) for point in picture.points()]


def spans_of(rows):
    firsts = [row for row in rows if row - 1 not in rows]
    lasts = [row for row in rows if row + 1 not in rows]
    return [span_word(first, last) for first, last in zip(firsts, lasts)]


def span_word(first, last):
    return str(first) if first == last else f"{first}-{last}"


def point_line(point, height):
    name, x, y, sides, low, high = point
    if (low, high) != (1, height):
        return f"point {name} {x} {y} {sides} {low} {high}"
    if sides != "both":
        return f"point {name} {x} {y} {sides}"
    return f"point {name} {x} {y}"
