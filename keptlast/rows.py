"""Rows of edits: what is kept behind them, and the papers of that."""

from keptlast.checks import check_field, check_row
from keptlast.kinds import is_list, lot_without
from keptlast.peels import bar_paper, is_bar_paper, is_plan_paper, plan_of, plan_paper
from keptlast.shapes import order_of


def order_behind(form, row):
    """The order of all fields behind a row, a list."""
    check_row(form, row)
    return order_of(form.fields, row)


def kept(form, row):
    """The lot of the fields that are kept behind a row."""
    return form(row)


def worked_out(form, row):
    """The lot of the fields that are worked out behind a row."""
    return lot_without(form.fields, form(row))


def plan_behind(form, row):
    """The dict from the rules to the worked-out fields of the plan behind a row."""
    return plan_of(form, form(row))


def thrown_out(form, row, field):
    """The lot of the fields that an edit of a field behind a row throws out."""
    before, behind = _kept_around(form, row, field)
    return lot_without(before, behind)


def comes_in(form, row, field):
    """The lot of the fields that come in if a field is edited behind a row."""
    before, behind = _kept_around(form, row, field)
    return lot_without(behind, before)


def kept_along(form, row):
    """Yields the lots that are kept behind the first 0, 1, 2, .. edits of a row."""
    check_row(form, row)
    for many in range(len(row) + 1):
        yield form(row[:many])


def row_paper(form, row):
    """A row paper of a row: why the fields of the order are not kept, and a plan that keeps all others."""
    reasons = []
    stay = []
    for field in order_behind(form, row):
        reason = bar_paper(form, [*stay, field])
        reasons.append(reason)
        if reason is None:
            stay.append(field)
    return reasons, plan_paper(form, stay)


def is_row_paper(form, row, value):
    """Whether any value is a row paper of a row."""
    order = order_behind(form, row)
    if not isinstance(value, tuple) or len(value) != 2:
        return False
    reasons, plan = value
    if not is_list(reasons) or len(reasons) != len(order):
        return False
    stay = []
    for field, reason in zip(order, reasons):
        if reason is None:
            stay.append(field)
        elif not is_bar_paper(form, [*stay, field], reason):
            return False
    return is_plan_paper(form, stay, plan)


def _kept_around(form, row, field):
    """The lots that are kept behind a row, and behind the row with an edit of a field."""
    check_row(form, row)
    check_field(form, field)
    return form(row), form([*row, field])
