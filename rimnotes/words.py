"""What counts as a whole number, and what as a name."""


def is_whole(thing, low, high):
    # Python counts the truths among its ints; here they are no numbers.
    return isinstance(thing, int) and not isinstance(thing, bool) and low <= thing <= high


def is_name(thing):
    # The length is asked first, since "bc" too stands between "a" and "z".
    return isinstance(thing, str) and len(thing) == 1 and "a" <= thing <= "z"
