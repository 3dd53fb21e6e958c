"""The two sides of a frame: where a rim lies, and how far a column is from it."""

from rimnotes.errors import NoSide


class Side:
    def __init__(self, width):
        self.width = width


class LeftSide(Side):
    def word(self):
        return "left"

    def rim(self):
        return 0

    def way(self):
        return -1

    def across(self, x):
        return x


class RightSide(Side):
    def word(self):
        return "right"

    def rim(self):
        return self.width + 1

    def way(self):
        return 1

    def across(self, x):
        return self.width + 1 - x


def side_of(word, width):
    # Only texts are compared, since a thing of another kind may call itself equal to anything.
    if isinstance(word, str):
        if word == "left":
            return LeftSide(width)
        if word == "right":
            return RightSide(width)
    raise NoSide(word)
