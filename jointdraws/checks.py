"""Questions about any value: of which kind it is."""

LETTERS = "abcdefghijklmnopqrstuvwxyz"


def is_whole(value):
    """Tell whether a value is an integer; True and False are none."""
    return isinstance(value, int) and not isinstance(value, bool)


def is_list(value):
    """Tell whether a value may stand where a list is expected."""
    return isinstance(value, (list, tuple))


def is_name(value):
    """Tell whether a value is a name."""
    if not isinstance(value, str) or not 1 <= len(value) <= 8:
        return False
    return all([letter in LETTERS for letter in value])


def are_names(value, most):
    """Tell whether a value is a list of different names, at least one and at most so many."""
    if not is_list(value) or not 1 <= len(value) <= most:
        return False
    return all([is_name(item) for item in value]) and len(set(value)) == len(value)


def are_some_of(value, allowed):
    """Tell whether a value is a list of different ones of some allowed strings."""
    if not is_list(value) or not all([item in allowed for item in value]):
        return False
    return len(set(value)) == len(value)


def has_just(value, names):
    """Tell whether a value is a dict that has some different names as its keys, and no others."""
    return isinstance(value, dict) and len(value) == len(names) and all([name in value for name in names])
