"""Questions about any value: of which kind it is."""

LETTERS = "abcdefghijklmnopqrstuvwxyz"


def is_whole(value):
    """Tell whether a value is an integer; True and False are none."""
    return isinstance(value, int) and not isinstance(value, bool)


def is_list(value):
    """Tell whether a value may stand where a list is expected."""
    return isinstance(value, (list, tuple))


def is_name(value):
    """Tell whether a value is a name."""
    if not isinstance(value, str) or not 1 <= len(value) <= 8:
        return False
    return all([letter in LETTERS for letter in value])
