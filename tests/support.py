"""What several test files need."""

import unittest


def same(one, other):
    """Whether two values are equal and of the same kind, also inside lists, tuples and dicts."""
    if type(one) is not type(other):
        return False
    if isinstance(one, (list, tuple)):
        return len(one) == len(other) and all(same(a, b) for a, b in zip(one, other))
    if isinstance(one, dict):
        return same(list(one.items()), list(other.items()))
    return one == other


class Case(unittest.TestCase):
    def assert_same(self, found, expected):
        self.assertTrue(same(found, expected), f"{found!r} instead of {expected!r}")

    def assert_raises(self, error, values, action, *args, **named):
        """The action raises just this error, whose attributes are just these, in this sequence."""
        with self.assertRaises(error) as caught:
            action(*args, **named)
        self.assertIs(type(caught.exception), error)
        self.assert_same(list(vars(caught.exception).values()), list(values))
        return caught.exception


class Odd:
    """A value of a kind that the package does not know, equal to nothing else and not fit for a key."""

    __hash__ = None

    def __eq__(self, other):
        return self is other


class EqualToAll:
    """A value of a kind that the package does not know, which calls itself equal to all others."""

    __hash__ = None

    def __eq__(self, other):
        return True
