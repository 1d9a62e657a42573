"""What functions of several files ask of their parameters."""

from keptlast.errors import InvalidLot, InvalidRow, OtherFields, OtherSequence, UnknownField
from keptlast.kinds import is_list, sorted_names, wrong_choice_at


def check_lot(form, lot):
    """InvalidLot unless the lot is a list of different fields of the form."""
    if not is_list(lot):
        raise InvalidLot(None)
    position = wrong_choice_at(lot, form.fields)
    if position is not None:
        raise InvalidLot(position)


def check_row(form, row):
    """InvalidRow unless the row is a list of fields of the form."""
    if not is_list(row):
        raise InvalidRow(None)
    for at, field in enumerate(row):
        if field not in form:
            raise InvalidRow(at)


def check_field(form, field):
    """UnknownField unless the value is a field of the form."""
    if field not in form:
        raise UnknownField(field)


def check_same_fields(one, other):
    """OtherFields unless both forms have the same fields, in any sequence."""
    alone = [field for field in one.fields if field not in other]
    alone = sorted_names([*alone, *[field for field in other.fields if field not in one]])
    if len(alone) > 0:
        raise OtherFields(alone[0])


def check_same_sequence(one, other):
    """OtherFields, and then OtherSequence, unless both forms have the same fields in the same sequence."""
    check_same_fields(one, other)
    for at, field in enumerate(one.fields):
        if field != other.fields[at]:
            raise OtherSequence(at)
