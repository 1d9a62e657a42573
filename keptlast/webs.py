"""Webs: forms whose fields are edges between their rules, so that plans are trees."""

from keptlast.errors import NotWeb
from keptlast.kinds import sorted_names

OUTSIDE = ""


def is_web(form):
    """Whether each field belongs to at most two rules, and all fields of each rule are its ways."""
    return _wrong_in(form) is None


def ends(form):
    """The dict from the fields that are edges, sorted, to the sorted tuples of their two corners."""
    _check_web(form)
    corners = {field: form.rules_of(field) for field in sorted_names(form.fields)}
    return {field: (OUTSIDE, *corners[field])[-2:] for field in corners if len(corners[field]) > 0}


def count_trees(form):
    """How many lots of edges join all corners without a ring."""
    _check_web(form)
    names = form.names()
    return _determinant([[_place(form, name, other) for other in names] for name in names])


def _wrong_in(form):
    """The first field of more than two rules, else the first rule with a field that is no way of it, or None."""
    wrong = [field for field in form.fields if len(form.rules_of(field)) > 2]
    wrong = [*wrong, *[name for name in form.names() if form[name].ways != form[name].fields]]
    return wrong[0] if len(wrong) > 0 else None


def _check_web(form):
    wrong = _wrong_in(form)
    if wrong is not None:
        raise NotWeb(wrong)


def _place(form, name, other):
    """What stands in the matrix of a web in the row of one rule and the column of another one."""
    shared = [field for field in form[name].fields if field in form[other].fields]
    return len(shared) if name == other else -len(shared)


def _determinant(rows):
    """The determinant of a matrix of at most as many rows as a form has rules."""
    if len(rows) == 0:
        return 1
    result = 0
    for at, head in enumerate(rows[0]):
        rest = _determinant([[*row[:at], *row[at + 1:]] for row in rows[1:]])
        result = result + (head * rest if at & 1 == 0 else -head * rest)
    return result
