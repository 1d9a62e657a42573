"""Two forms with the same fields in the same sequence: whether they keep the same fields behind all rows."""

from keptlast.checks import check_same_sequence
from keptlast.clashes import is_lots_paper, lots_paper
from keptlast.errors import TooMany
from keptlast.forms import shape_of
from keptlast.shapes import gone_on

MOST_FIELDS_OF_LOSS = 7


def are_alike(one, other):
    """Whether the same fields are kept in both forms behind all rows."""
    check_same_sequence(one, other)
    return shape_of(one).clash_numbers() == shape_of(other).clash_numbers()


def parting(one, other):
    """A row with the fewest edits behind which different fields are kept; None if the forms are alike."""
    if are_alike(one, other):
        return None
    return _shortest_row(one, other, _differ)


def alike_paper(one, other):
    """An alike paper: that each form is within the other one; None if they are not alike."""
    if not are_alike(one, other):
        return None
    return lots_paper(one, other), lots_paper(other, one)


def is_alike_paper(one, other, value):
    """Whether any value is an alike paper of two forms."""
    check_same_sequence(one, other)
    if not isinstance(value, tuple) or len(value) != 2:
        return False
    return is_lots_paper(one, other, value[0]) and is_lots_paper(other, one, value[1])


def loss(one, other):
    """A row with the fewest edits behind which some field is kept in one form and not in the other, or None."""
    check_same_sequence(one, other)
    if len(one.fields) > MOST_FIELDS_OF_LOSS:
        raise TooMany("fields", MOST_FIELDS_OF_LOSS)
    return _shortest_row(one, other, _loses)


def are_unions(one, other):
    """Whether each clash of the other form is a union of clashes of one."""
    check_same_sequence(one, other)
    parts = shape_of(one).clash_numbers()
    return all([_union_within(parts, number) == number for number in shape_of(other).clash_numbers()])


def _differ(first, second):
    return first != second


def _loses(first, second):
    return first & ~second != 0


def _union_within(parts, number):
    """The number of all fields of those parts that lie within the lot with a number."""
    union = 0
    for part in parts:
        if part & ~number == 0:
            union = union | part
    return union


def _shortest_row(one, other, is_wanted):
    """A row with the fewest edits behind which the numbers of the kept lots are as wanted, or None.

    What is kept is decided field by field along the order. So of the rows that lead to the same state, once their
    fields are gone through, one is enough; the other fields follow in the sequence of the forms.
    """
    tables = (shape_of(one).stays(), shape_of(other).stays())
    bits = shape_of(one).bits()
    fronts = {(0, 0, 0): ()}
    while len(fronts) > 0:
        for state in fronts:
            behind = state
            for bit in bits:
                behind = gone_on(tables, behind, bit)
            if is_wanted(behind[1], behind[2]):
                return [shape_of(one).lot_of(bit)[0] for bit in reversed(list(fronts[state]))]
        fronts = {gone_on(tables, state, bit): (*fronts[state], bit)
                  for state in fronts for bit in bits if state[0] & bit == 0}
    return None
