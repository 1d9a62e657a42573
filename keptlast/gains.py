"""On which kept fields the others hang, and how much each of these counts."""

from keptlast.amounts import Amount
from keptlast.checks import check_field, check_row
from keptlast.errors import NotTotals
from keptlast.kinds import lot_without, sorted_names
from keptlast.peels import plan_row
from keptlast.rules import Total
from keptlast.sheets import all_numbers


def hangs_on(form, row, field):
    """The lot of the kept fields on which a field hangs behind a row."""
    check_row(form, row)
    check_field(form, field)
    return _hanging(form, form(row))[field]


def gains(form, row):
    """The dict from the fields that are worked out behind a row to tuples of a constant and of their gains."""
    check_row(form, row)
    for name in form.names():
        if not isinstance(form[name], Total):
            raise NotTotals(name)
    kept = form(row)
    hanging = _hanging(form, kept)
    constants = all_numbers(form, {field: Amount(0) for field in kept})
    # If just one kept field is 1 and all others are 0, the worked-out fields differ by its gains.
    changed = {one: all_numbers(form, {other: Amount(1 if other == one else 0) for other in kept}) for one in kept}
    found = {}
    for field in sorted_names(lot_without(form.fields, kept)):
        constant = constants[field]
        found[field] = (constant, {one: changed[one][field] - constant for one in sorted_names(hanging[field])})
    return found


def _hanging(form, kept):
    """The dict from all fields to the lots on which they hang, if just a full lot is kept."""
    found = {}
    for field in kept:
        found[field] = (field,)
    for name, worked in plan_row(form, kept):
        below = [one for field in form[name].fields if field != worked for one in found[field]]
        found[worked] = tuple([one for one in kept if one in below])
    return found
