"""Which lots can stay: plans, papers of lots, and full lots."""

from keptlast.checks import check_lot
from keptlast.forms import private, shape_of
from keptlast.kinds import is_list
from keptlast.shapes import size_of


def can_stay(form, lot):
    """Whether some plan keeps all fields of a lot."""
    return bar_paper(form, lot) is None


def plan_paper(form, lot):
    """A plan paper of a lot, or None if it cannot stay."""
    if not can_stay(form, lot):
        return None
    paper = []
    left = tuple(form.names())
    # The row of a plan is found from its end: what a rule there works out is needed by no rule ahead of it.
    while len(left) > 0:
        free = [field for field in private(form, left) if field not in lot]
        owners = [name for name in left if free[0] in form[name].fields]
        paper = [(owners[0], free[0]), *paper]
        left = tuple([name for name in left if name != owners[0]])
    return paper


def bar_paper(form, lot):
    """The first bar paper of a lot, or None if it can stay."""
    check_lot(form, lot)
    shape = shape_of(form)
    return shape.bar(shape.number_of(lot))


def is_plan_paper(form, lot, value):
    """Whether any value is a plan paper of a lot."""
    check_lot(form, lot)
    if not is_list(value) or len(value) != len(form):
        return False
    if not all([_is_step(form, lot, step) for step in value]):
        return False
    # A rule that stands twice fails here too: its second field is a field of the rule ahead.
    return not any([field in form[name].fields for at, (_, field) in enumerate(value) for name, _ in value[:at]])


def is_bar_paper(form, lot, value):
    """Whether any value is a bar paper of a lot."""
    check_lot(form, lot)
    return shape_of(form).is_set(value) and all([field in lot for field in private(form, value)])


def plan_of(form, lot):
    """The dict from the rules to the worked-out fields of the plan that keeps just this lot; None if there is none."""
    paper = plan_paper(form, lot)
    if paper is None or len(lot) + len(paper) != len(form.fields):
        return None
    fields = dict(paper)
    return {name: fields[name] for name in form.names()}


def plan_row(form, lot):
    """The row of the plan that keeps just this lot, or None if there is no such plan."""
    plan = plan_of(form, lot)
    if plan is None:
        return None
    row = []
    known = list(lot)
    while len(row) < len(plan):
        ready = [name for name in plan if _is_next(form[name], plan[name], known)]
        row.append((ready[0], plan[ready[0]]))
        known.append(plan[ready[0]])
    return row


def full_lots(form):
    """Yields all full lots, in their order."""
    shape = shape_of(form)
    size = len(form.fields) - len(form)
    for number in reversed(range(1 << len(form.fields))):
        if size_of(number) == size and shape.bar(number) is None:
            yield shape.lot_of(number)


def count_full(form):
    """How many full lots there are."""
    return len(list(full_lots(form)))


def _is_step(form, lot, value):
    """Whether any value is a tuple of a rule and of a way of it outside the lot."""
    if not isinstance(value, tuple) or len(value) != 2:
        return False
    name, field = value
    if not isinstance(name, str) or name not in form.names():
        return False
    return isinstance(field, str) and field in form[name].ways and field not in lot


def _is_next(rule, worked, known):
    """Whether all fields of a rule are known but the one that it works out."""
    return worked not in known and all([field == worked or field in known for field in rule.fields])
