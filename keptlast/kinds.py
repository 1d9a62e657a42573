"""The kinds of plain values that all files of the package ask for."""

LETTERS = "abcdefghijklmnopqrstuvwxyz"
NAME_SIGNS = "abcdefghijklmnopqrstuvwxyz0123456789"
LONGEST_NAME = 8


def is_whole(value):
    """Whether a value is an INTEGER."""
    return isinstance(value, int) and not isinstance(value, bool)


def is_count(value):
    """Whether a value is a COUNT."""
    return is_whole(value) and value >= 0


def is_name(value):
    """Whether a value is a NAME."""
    if not isinstance(value, str) or not 1 <= len(value) <= LONGEST_NAME:
        return False
    return value[0] in LETTERS and all([sign in NAME_SIGNS for sign in value])


def is_list(value):
    """Whether a value is what the document calls a list: a tuple is one as well."""
    return isinstance(value, (list, tuple))


def wrong_name_at(values, earlier):
    """The position of the first value that is no NAME or stands earlier, also in the NAMES `earlier`, or None."""
    seen = {}
    for name in earlier:
        seen[name] = True
    for at, value in enumerate(values):
        # Only a NAME is looked up: other values need not be fit for a key.
        if not is_name(value) or value in seen:
            return at
        seen[value] = True
    return None


def wrong_choice_at(values, choices):
    """The position of the first value that is none of the choices, which are NAMES, or stands earlier, or None."""
    for at, value in enumerate(values):
        # Only strings are compared: other values may call themselves equal to anything.
        if not isinstance(value, str) or value not in choices or value in values[:at]:
            return at
    return None


def sorted_names(names):
    """The sorted tuple of some NAMES."""
    return tuple(sorted([str(name) for name in names]))


def is_lot_of(fields, value):
    """Whether any value is a tuple of some of these different fields, in their sequence."""
    if not isinstance(value, tuple) or not all([isinstance(field, str) for field in value]):
        return False
    return value == tuple([field for field in fields if field in value])


def lot_without(lot, others):
    """The fields of a lot that are not among others."""
    return tuple([field for field in lot if field not in others])
