"""Sheets: forms with exact numbers, whose rules are true after each edit."""

from keptlast.amounts import Amount, is_number
from keptlast.checks import check_field, check_same_fields
from keptlast.clashes import clash_rules
from keptlast.errors import CommandFailed, DividedByZero, FormError, InvalidAmount, InvalidEdits, InvalidForm
from keptlast.errors import InvalidNumbers, LooseRule, MissingError, Never, NothingToUndo, Refused, StateError
from keptlast.forms import Form, shape_of
from keptlast.kinds import is_list, lot_without, sorted_names
from keptlast.peels import can_stay, plan_row
from keptlast.rules import Loose


class Sheet:
    """A form without Loose rules, an order of its fields, and an Amount for each field."""

    def __init__(self, form, numbers):
        _check_form(form)
        _check_numbers(form, numbers)
        kept = form([])
        amounts = {field: Amount.of(numbers[field]) for field in kept}
        try:
            state = (form, form.fields, kept, all_numbers(form, amounts))
        except DividedByZero as error:
            raise Refused(None) from error
        # No state is ever changed, so copies and trials may keep them. The last one is what the sheet is now.
        self._states = (state,)

    @property
    def form(self):
        """The form, which can be replaced by one with the same fields."""
        return self._states[-1][0]

    @form.setter
    def form(self, value):
        self.set_form(value)

    def set_form(self, form):
        """Puts another form with the same fields, in any sequence, in the place of the form."""
        _check_form(form)
        check_same_fields(self.form, form)
        try:
            state = _state_of(form, self.order, self.numbers())
        except DividedByZero as error:
            raise Refused(None) from error
        self._states = (*self._states, state)

    @property
    def order(self):
        """The tuple of all fields, those that were edited last being first."""
        return self._states[-1][1]

    @property
    def kept(self):
        """The lot of the fields that are kept."""
        return self._states[-1][2]

    @property
    def changes(self):
        """How many changes can be taken back."""
        return len(self._states) - 1

    def numbers(self):
        """The dict from all fields, sorted, to their Amounts."""
        return dict(self._states[-1][3])

    def table(self):
        """A line for each field, in the order: the field, a star if it is kept, and its number."""
        numbers = self.numbers()
        return [_table_line(field, field in self.kept, numbers[field]) for field in self.order]

    def __getitem__(self, at):
        check_field(self.form, at)
        return self._states[-1][3][at]

    def __iter__(self):
        raise TypeError("a sheet is not gone through")

    def __contains__(self, x):
        return x in self.form

    def __len__(self):
        return len(self.order)

    def __setitem__(self, at, worth):
        self.edit(at, worth)

    def edit(self, field, number):
        """Gives a field a number, and returns the lot of the fields that this throws out."""
        before = self.kept
        self._states = (*self._states, _edited(self._states[-1], field, number))
        return lot_without(before, self.kept)

    def edit_all(self, edits):
        """Does edits, which are tuples (field, number), all or none; the list of the lots that they throw out."""
        _check_edits(edits)
        states = self._states
        for at, (field, number) in enumerate(edits):
            try:
                states = (*states, _edited(states[-1], field, number))
            except (FormError, MissingError, StateError) as error:
                raise CommandFailed(at) from error
        first = len(self._states)
        self._states = states
        return [lot_without(states[at - 1][2], states[at][2]) for at in range(first, len(states))]

    def undo(self):
        """Takes back the last edit or form that is not taken back."""
        if len(self._states) == 1:
            raise NothingToUndo()
        self._states = self._states[:-1]

    def copy(self):
        """A sheet that is equal in all of this, also in what can be taken back."""
        form, _, kept, numbers = self._states[0]
        twin = Sheet(form, {field: numbers[field] for field in kept})
        twin._states = self._states
        return twin

    def tried(self, action):
        """Calls an action with the sheet, returns what that returns, and leaves the sheet as it was."""
        states = self._states
        try:
            return action(self)
        finally:
            self._states = states


def all_numbers(form, amounts):
    """The dict from all fields, sorted, to their Amounts, told those of a full lot; DividedByZero with the rule."""
    found = dict(amounts)
    for name, field in plan_row(form, list(amounts)):
        try:
            found[field] = form[name].worked_out(field, found)
        except DividedByZero:
            raise DividedByZero(name) from None
    return {field: found[field] for field in sorted_names(found)}


def _check_form(form):
    """InvalidForm, and then LooseRule, unless a sheet may have this form."""
    if not isinstance(form, Form):
        raise InvalidForm(form)
    for name in form.names():
        if isinstance(form[name], Loose):
            raise LooseRule(name)


def _check_numbers(form, numbers):
    """InvalidNumbers unless the numbers are those of the fields that are kept at the beginning."""
    if not isinstance(numbers, dict) or not all([field in form for field in numbers]):
        raise InvalidNumbers(None)
    kept = form([])
    for field in form.fields:
        if (field in kept) != (field in numbers) or (field in kept and not is_number(numbers[field])):
            raise InvalidNumbers(field)


def _check_edits(edits):
    """InvalidEdits unless the edits are a list of tuples of two."""
    if not is_list(edits):
        raise InvalidEdits(None)
    for at, edit in enumerate(edits):
        if not isinstance(edit, tuple) or len(edit) != 2:
            raise InvalidEdits(at)


def _state_of(form, order, numbers):
    """The state of a sheet with this form and order, in which kept fields have these numbers."""
    kept = shape_of(form).kept_in(order)
    return form, order, kept, all_numbers(form, {field: numbers[field] for field in kept})


def _edited(state, field, number):
    """The state of a sheet behind an edit of a field, told the one ahead of it."""
    form, order, _, numbers = state
    check_field(form, field)
    if not is_number(number):
        raise InvalidAmount(number)
    if not can_stay(form, [field]):
        raise Never(clash_rules(form, [field]))
    try:
        return _state_of(form, (field, *lot_without(order, [field])), {**numbers, field: Amount.of(number)})
    except DividedByZero as error:
        raise Refused(field) from error


def _table_line(field, is_kept, amount):
    mark = "*" if is_kept else " "
    return f"{field.ljust(8)} {mark} {str(amount).rjust(12)}"
