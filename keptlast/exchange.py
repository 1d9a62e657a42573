"""How many of the last edited fields always stay, and how many an edit throws out."""

from keptlast.checks import check_field
from keptlast.errors import InvalidCount, TooMany
from keptlast.forms import private, shape_of
from keptlast.kinds import is_count, is_lot_of
from keptlast.shapes import gone_on, sets_as_keys, size_of, with_next

MOST_FIELDS_OF_ROWS = 7
MOST_WAYS = 12


def sure_last(form):
    """The greatest number of last edited fields that are kept behind all rows."""
    numbers = shape_of(form).clash_numbers()
    if len(numbers) == 0:
        return len(form.fields)
    # No clash has fewer fields than the first one.
    return size_of(numbers[0]) - 1


def last_paper(form, many):
    """A last paper: that so many last edited fields always stay; None if they do not."""
    _check_count(many)
    if many > sure_last(form):
        return None
    return {names: private(form, names)[:many + 1] for names in sets_as_keys(form.names())}


def is_last_paper(form, many, value):
    """Whether any value is a last paper for so many fields."""
    _check_count(many)
    if many > len(form.fields) or not isinstance(value, dict) or len(value) != len(shape_of(form).sets()):
        return False
    if not all([shape_of(form).is_set(key) for key in value]):
        return False
    return all([is_lot_of(private(form, key), value[key]) and len(value[key]) == many + 1 for key in value])


def is_one_for_one(form):
    """Whether no edit, behind any row, throws out more than one field."""
    return _unexchanged(form) is None


def two_out(form):
    """A tuple (row, field), or None: the edit of the field behind the row throws out more than one field."""
    found = _unexchanged(form)
    if found is None:
        return None
    first, second, bit = found
    shape = shape_of(form)
    # The shared fields are edited last, so it is the other ones that the edit throws out: one of each clash.
    row = [*shape.lot_of(first ^ second), *shape.lot_of(first & second & ~bit)]
    return row, shape.lot_of(bit)[0]


def most_out(form):
    """The greatest number of fields that an edit throws out, behind any row."""
    _check_few_fields(form)
    return max([int(size_of(number)) for field in form.fields for number in _thrown_numbers(form, field)])


def rivals(form, field):
    """The lot of the fields that an edit of this field throws out behind some row."""
    check_field(form, field)
    _check_few_fields(form)
    union = 0
    for number in _thrown_numbers(form, field):
        union = union | number
    return shape_of(form).lot_of(union)


def fewest_ways(form, many):
    """The fewest ways to add, as tuples (rule, field), so that so many last edited fields always stay; or None."""
    _check_count(many)
    missing = [(name, field) for name in form.names() for field in form[name].fields if field not in form[name].ways]
    if len(missing) > MOST_WAYS:
        raise TooMany("ways", MOST_WAYS)
    if many > len(form.fields):
        return None
    needs = _needs(form, missing, many)
    for size in range(len(missing) + 1):
        for number in range(1 << len(missing)):
            if size_of(number) == size and all([size_of(number & helping) >= lack for helping, lack in needs]):
                return [way for at, way in enumerate(missing) if number & (1 << at) != 0]
    return None


def _check_count(many):
    if not is_count(many):
        raise InvalidCount(many)


def _check_few_fields(form):
    if len(form.fields) > MOST_FIELDS_OF_ROWS:
        raise TooMany("fields", MOST_FIELDS_OF_ROWS)


def _unexchanged(form):
    """Two clashes and a shared field, as numbers, such that all their other fields can stay together; or None."""
    shape = shape_of(form)
    stays = shape.stays()
    numbers = shape.clash_numbers()
    for first in numbers:
        for second in numbers:
            for bit in shape.bits():
                if first != second and first & second & bit != 0 and stays[(first | second) & ~bit]:
                    return first, second, bit
    return None


def _thrown_numbers(form, field):
    """The numbers of all lots, perhaps without the empty one, that an edit of a field throws out behind some row.

    If the edit throws out anything, the field is not kept ahead of it. Then the other fields are kept as if the form
    did not have it. So there are two ways through the others: one that begins with the field, and one without it.
    """
    shape = shape_of(form)
    stays = shape.stays()
    bit = shape.number_of([field])
    states = {(bit, 0, with_next(stays, 0, bit)): True}
    for _ in range(len(form.fields) - 1):
        states = {gone_on((stays, stays), state, other): True
                  for state in states for other in shape.bits() if state[0] & other == 0}
    return [before & ~behind for _, before, behind in states]


def _needs(form, missing, many):
    """Tuples (helping, lack) for the sets of rules with too few private fields.

    Helping is a number with a bit for each missing way that gives the set one more; lack is how many the set lacks.
    """
    shape = shape_of(form)
    needs = []
    for names in shape.sets():
        lack = many + 1 - size_of(shape.private_of(names))
        if lack > 0:
            helping = 0
            for at, (name, field) in enumerate(missing):
                if [other for other in names if field in form[other].fields] == [name]:
                    helping = helping | (1 << at)
            needs.append((helping, lack))
    return needs
