"""Claims about forms, and the certificates that show them."""

from keptlast.checks import check_field, check_lot, check_row, check_same_fields, check_same_sequence
from keptlast.clashes import is_lots_paper, lot_apart, lots_paper
from keptlast.errors import FormError, InvalidClaim, InvalidCount, InvalidForm, MissingError
from keptlast.exchange import is_last_paper, last_paper, two_out
from keptlast.forms import Form, private, shape_of
from keptlast.kinds import is_count, is_lot_of, sorted_names
from keptlast.known import check_known, is_stands_paper, order_for, possible, stands_paper, sure
from keptlast.pairs import alike_paper, is_alike_paper, parting
from keptlast.peels import bar_paper, is_bar_paper, is_plan_paper, plan_paper
from keptlast.rows import is_row_paper, order_behind, row_paper, thrown_out

KINDS = ("can stay", "cannot stay", "kept", "within", "not within", "alike", "unlike", "last", "not last", "two out",
         "sure", "not sure")
# What stands behind the form of a claim; an other form has the same fields, a twin has them in the same sequence.
PARTS = {
    "can stay": ("lot",),
    "cannot stay": ("lot",),
    "kept": ("row", "lot"),
    "within": ("other",),
    "not within": ("other",),
    "alike": ("twin",),
    "unlike": ("twin",),
    "last": ("many",),
    "not last": ("many",),
    "two out": (),
    "sure": ("facts", "field"),
    "not sure": ("facts", "field"),
}


def is_claim(value):
    """Whether any value is a claim."""
    if not isinstance(value, tuple) or len(value) == 0 or not isinstance(value[0], str) or value[0] not in KINDS:
        return False
    words = PARTS[value[0]]
    if len(value) != len(words) + 2 or not isinstance(value[1], Form):
        return False
    return all([_is_part(word, value[1], part) for word, part in zip(words, value[2:])])


def is_certificate(claim, value):
    """Whether any value is a certificate of a claim."""
    _check_claim(claim)
    kind, form, *parts = claim
    if kind == "can stay":
        return is_plan_paper(form, parts[0], value)
    if kind == "cannot stay":
        return is_bar_paper(form, parts[0], value)
    if kind == "kept":
        return is_row_paper(form, parts[0], value) and _tells_kept(form, parts[0], value[0], parts[1])
    if kind == "within":
        return is_lots_paper(form, parts[0], value)
    if kind == "not within":
        return _is_apart(form, parts[0], value)
    if kind == "alike":
        return is_alike_paper(form, parts[0], value)
    if kind == "unlike":
        return _is_part("row", form, value) and form(value) != parts[0](value)
    if kind == "last":
        return is_last_paper(form, parts[0], value)
    if kind == "not last":
        return shape_of(form).is_set(value) and len(private(form, value)) <= parts[0]
    if kind == "two out":
        return _is_two_out(form, value)
    if kind == "sure":
        return is_stands_paper(form, parts[0], value) and _shows(value, parts[1])
    return _is_order_without(form, parts[0], parts[1], value)


def certificate_of(claim):
    """A certificate of a claim, or None if the claim is not true."""
    _check_claim(claim)
    kind, form, *parts = claim
    if kind == "can stay":
        return plan_paper(form, parts[0])
    if kind == "cannot stay":
        return bar_paper(form, parts[0])
    if kind == "kept":
        return row_paper(form, parts[0]) if sorted_names(form(parts[0])) == sorted_names(parts[1]) else None
    if kind == "within":
        return lots_paper(form, parts[0])
    if kind == "not within":
        return _apart(form, parts[0])
    if kind == "alike":
        return alike_paper(form, parts[0])
    if kind == "unlike":
        return parting(form, parts[0])
    if kind == "last":
        return last_paper(form, parts[0])
    if kind == "not last":
        return _few_private(form, parts[0])
    if kind == "two out":
        return two_out(form)
    if kind == "sure":
        return stands_paper(form, parts[0]) if parts[1] in sure(form, parts[0]) else None
    return _order_without(form, parts[0], parts[1])


def _check_claim(claim):
    if not is_claim(claim):
        raise InvalidClaim(claim)


def _is_part(word, form, part):
    """Whether a value may stand in a claim about a form, or in its certificate, for what a word tells."""
    try:
        _check_part(word, form, part)
    except (FormError, MissingError):
        return False
    return True


def _check_part(word, form, part):
    if word == "lot":
        check_lot(form, part)
    elif word == "row":
        check_row(form, part)
    elif word == "field":
        check_field(form, part)
    elif word == "facts":
        check_known(form, part)
    elif word == "many":
        if not is_count(part) or part > len(form.fields):
            raise InvalidCount(part)
    elif not isinstance(part, Form):
        raise InvalidForm(part)
    elif word == "other":
        check_same_fields(form, part)
    else:
        check_same_sequence(form, part)


def _tells_kept(form, row, reasons, lot):
    """Whether the reasons of a row paper tell that just the fields of this lot are kept."""
    stay = [field for field, reason in zip(order_behind(form, row), reasons) if reason is None]
    return sorted_names(stay) == sorted_names(lot)


def _apart(one, other):
    """A lot that can stay in one form and not in the other, with its papers; None if there is none."""
    lot = lot_apart(one, other)
    if lot is None:
        return None
    return lot, plan_paper(one, lot), bar_paper(other, lot)


def _is_apart(one, other, value):
    """Whether any value is a lot with papers that it can stay in one form and not in the other."""
    if not isinstance(value, tuple) or len(value) != 3 or not is_lot_of(one.fields, value[0]):
        return False
    return is_plan_paper(one, value[0], value[1]) and is_bar_paper(other, value[0], value[2])


def _few_private(form, many):
    """The first set of rules with at most so many private fields, or None."""
    for names in shape_of(form).sets():
        if len(private(form, names)) <= many:
            return names
    return None


def _is_two_out(form, value):
    """Whether any value is a tuple (row, field) such that the edit of the field throws out at least two fields."""
    if not isinstance(value, tuple) or len(value) != 2:
        return False
    row, field = value
    if not _is_part("row", form, row) or not _is_part("field", form, field):
        return False
    return len(thrown_out(form, row, field)) >= 2


def _shows(paper, field):
    """Whether a stands paper shows that a field is sure."""
    return all([field in kept for seen, kept in paper if field in seen])


def _order_without(form, facts, field):
    """An order that keeps the facts and in which a field is not kept, or None."""
    for lot in possible(form, facts):
        if field not in lot:
            return order_for(form, facts, lot)
    return None


def _is_order_without(form, facts, field, value):
    """Whether any value is an order that keeps the facts and in which a field is not kept."""
    if not _is_part("lot", form, value) or len(value) != len(form.fields):
        return False
    if not all([value.index(newer) < value.index(elder) for newer, elder in facts]):
        return False
    return field not in shape_of(form).kept_in(value)
