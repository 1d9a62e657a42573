"""Clashes: the least lots that cannot stay. Forms within forms."""

from keptlast.checks import check_field, check_same_fields
from keptlast.forms import private, shape_of
from keptlast.peels import bar_paper, can_stay
from keptlast.shapes import sets_as_keys


def clashes(form):
    """Yields all clashes, in the order of lots."""
    shape = shape_of(form)
    for number in shape.clash_numbers():
        yield shape.lot_of(number)


def is_clash(form, lot):
    """Whether a lot is a clash."""
    if can_stay(form, lot):
        return False
    return all([can_stay(form, [other for other in lot if other != field]) for field in lot])


def clash_rules(form, lot):
    """The first set of rules whose private fields are just this clash; None if the lot is no clash."""
    # A set of rules with fewer private fields would bar a lot within the clash, which can stay.
    return bar_paper(form, lot) if is_clash(form, lot) else None


def never(form):
    """The tuple of the fields that can never stay."""
    return tuple([field for field in form.fields if not can_stay(form, [field])])


def first_clash(form, field):
    """The first clash that contains a field, or None."""
    check_field(form, field)
    for lot in clashes(form):
        if field in lot:
            return lot
    return None


def lots_paper(one, other):
    """A lots paper: that one form is within the other; None if it is not."""
    check_same_fields(one, other)
    inner = shape_of(one)
    paper = {names: inner.bar_in(shape_of(other), names) for names in sets_as_keys(other.names())}
    if any([names is None for names in list(paper.values())]):
        return None
    return paper


def is_lots_paper(one, other, value):
    """Whether any value is a lots paper: that one form is within the other."""
    check_same_fields(one, other)
    if not isinstance(value, dict) or len(value) != len(shape_of(other).sets()):
        return False
    if not all([shape_of(other).is_set(key) and shape_of(one).is_set(value[key]) for key in value]):
        return False
    return all([field in private(other, key) for key in value for field in private(one, value[key])])


def lot_apart(one, other):
    """A lot with the fewest fields that can stay in one form and not in the other, or None."""
    check_same_fields(one, other)
    shape = shape_of(one)
    # Each lot that cannot stay in the other form contains a clash of it, which has no more fields.
    for lot in clashes(other):
        if can_stay(one, lot):
            return shape.lot_of(shape.number_of(lot))
    return None
