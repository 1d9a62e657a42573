"""Lots as numbers, and what decides which lots of a form can stay."""

from keptlast.kinds import sorted_names


class Shape:
    """The fields of a form, and the private fields of its sets of rules.

    A lot is a number here, in which each field has a bit of its own. The first field of the form has the highest bit,
    so lots of the same length are in their order if their numbers fall.
    """

    def __init__(self, fields, rules):
        self._bits = {field: 1 << (len(fields) - 1 - at) for at, field in enumerate(fields)}
        owned = {name: self.number_of(rules[name].fields) for name in rules}
        ways = {name: self.number_of(rules[name].ways) for name in rules}
        self._privates = {names: _private_number(names, owned, ways) for names in _sets_in_order(sorted_names(rules))}

    def bits(self):
        """The numbers of the lots of one field each, in the sequence of the form."""
        return list(self._bits.values())

    def number_of(self, lot):
        """The number of a lot."""
        number = 0
        for field in lot:
            number = number | self._bits[field]
        return number

    def lot_of(self, number):
        """The lot with this number, in the sequence of the form."""
        return tuple([field for field in self._bits if number & self._bits[field] != 0])

    def sets(self):
        """All sets of rules in their order."""
        return list(self._privates)

    def is_set(self, value):
        """Whether any value is a set of rules."""
        if not isinstance(value, tuple) or not all([isinstance(name, str) for name in value]):
            return False
        return value in self._privates

    def private_of(self, names):
        """The number of the private fields of a set of rules."""
        return self._privates[names]

    def bar(self, number):
        """The first set of rules all of whose private fields are in the lot with this number, or None."""
        for names in self._privates:
            if self._privates[names] & ~number == 0:
                return names
        return None

    def stays(self):
        """A list that tells at the number of each lot whether it can stay."""
        return [self.bar(number) is None for number in range(1 << len(self._bits))]

    def kept_in(self, order):
        """The lot that is kept if fields are gone through in this order."""
        number = 0
        for field in order:
            wider = number | self._bits[field]
            if self.bar(wider) is None:
                number = wider
        return self.lot_of(number)

    def clash_numbers(self):
        """The numbers of all clashes, in the order of lots."""
        found = []
        for number in in_order(list(self._privates.values()), len(self._bits)):
            # Lots within this one have fewer fields or are this one, so they stand ahead of it.
            if not any([less & ~number == 0 for less in found]):
                found.append(number)
        return found

    def is_within(self, other):
        """Whether each lot that can stay here can stay in another shape with the same fields."""
        return all([self.bar_in(other, names) is not None for names in other.sets()])

    def bar_in(self, other, names):
        """The first set of rules here all of whose private fields are private to a set of another shape, or None."""
        return self.bar(self.number_of(other.lot_of(other.private_of(names))))


def size_of(number):
    """How many fields the lot with this number has."""
    size = 0
    rest = number
    while rest != 0:
        rest = rest & (rest - 1)
        size = size + 1
    return size


def in_order(numbers, many):
    """The numbers of some lots of a form with so many fields, in the order of lots."""
    full = (1 << many) - 1
    # The length counts first; then the higher number stands ahead.
    keys = sorted([int((size_of(number) << many) + full - number) for number in numbers])
    return [full - (key & full) for key in keys]


def with_next(stays, number, bit):
    """The number of the kept lot once an order goes on with one more field; `stays` is as of a Shape."""
    return number | bit if stays[number | bit] else number


def gone_on(tables, state, bit):
    """Where two ways through the same fields lead if both go on with one more field.

    The tables are a pair of what a Shape tells by `stays`. A state is a tuple of three numbers: of the fields that were
    gone through, and of those of them that are kept on the first way and on the second one.
    """
    seen, first, second = state
    if seen & bit != 0:
        return state
    return seen | bit, with_next(tables[0], first, bit), with_next(tables[1], second, bit)


def sets_as_keys(names):
    """All sets of these sorted names, in the order in which Python compares tuples."""
    found = []
    for name in reversed(list(names)):
        found = [(name,), *[(name, *others) for others in found], *found]
    return found


def order_of(fields, row):
    """The order of these fields behind a row: what was edited last is first."""
    order = []
    for field in reversed(list(row)):
        if field not in order:
            order.append(field)
    return [*order, *[field for field in fields if field not in order]]


def _sets_in_order(names):
    """All sets of these sorted names, in the order of sets of rules."""
    found = []
    longest = [()]
    while len(longest) > 0:
        longest = [(*chosen, name) for chosen in longest for name in names if len(chosen) == 0 or chosen[-1] < name]
        found = [*found, *longest]
    return found


def _private_number(names, owned, ways):
    """The number of the private fields of a set of rules, whose fields and ways are told as numbers."""
    once = 0
    shared = 0
    worked = 0
    for name in names:
        shared = shared | (once & owned[name])
        once = once | owned[name]
        worked = worked | ways[name]
    return worked & ~shared
