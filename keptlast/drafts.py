"""Drafts: forms in the making."""

from keptlast.errors import InvalidForm, InvalidName, InvalidRule, NothingToUndo
from keptlast.forms import Form, check_fields, check_rules, rule_named
from keptlast.kinds import is_name, sorted_names
from keptlast.rules import Rule


class Draft:
    """Fields and rules that are changed one after another, until a form is made of them."""

    def __init__(self, form=None):
        if form is not None and not isinstance(form, Form):
            raise InvalidForm(form)
        fields = () if form is None else form.fields
        rules = {} if form is None else form.rules()
        # No state is ever changed, so copies and Trials may keep them. The last one is what the draft is now.
        self._states = ((fields, rules),)

    @property
    def sequence(self):
        """The tuple of the fields."""
        return self._states[-1][0]

    @sequence.setter
    def sequence(self, value):
        self.set_fields(value)

    def set_fields(self, fields):
        """Puts these fields in the place of all fields."""
        check_fields(fields)
        self._go_on(tuple(fields), self._rules_now())

    def __getitem__(self, at):
        return rule_named(self._rules_now(), at)

    def __iter__(self):
        raise TypeError("a draft is not gone through")

    def __setitem__(self, at, worth):
        if not is_name(at):
            raise InvalidName(at)
        if not isinstance(worth, Rule):
            raise InvalidRule(worth)
        rules = self._rules_now()
        self._go_on(self.sequence, {**rules, at: worth})

    def __iadd__(self, other):
        check_rules(other)
        rules = self._rules_now()
        self._go_on(self.sequence, {**rules, **other})
        return self

    def __isub__(self, other):
        rules = self._rules_now()
        rule_named(rules, other)
        self._go_on(self.sequence, {name: rules[name] for name in rules if name != other})
        return self

    def __len__(self):
        return len(self._rules_now())

    def names(self):
        """The sorted list of the names of the rules."""
        return list(sorted_names(self._rules_now()))

    def made(self):
        """The Form of these fields and rules."""
        return Form(self.sequence, self._rules_now())

    def undo(self):
        """Takes back the last change that is not taken back."""
        if len(self._states) == 1:
            raise NothingToUndo()
        self._states = self._states[:-1]

    def copy(self):
        """A draft with the same fields, rules and changes to take back."""
        twin = Draft()
        twin._states = self._states
        return twin

    def _rules_now(self):
        return self._states[-1][1]

    def _go_on(self, fields, rules):
        self._states = (*self._states, (fields, rules))


class Trial:
    """A context manager behind which a draft is as it was ahead of it."""

    def __init__(self, draft):
        self._draft = draft
        self._held = ()

    def __enter__(self):
        self._held = self._draft._states
        return self._draft

    def __exit__(self, kind, value, trace):
        self._draft._states = self._held


def tried(draft, action):
    """Calls an action with the draft within a Trial, and returns what that returns."""
    with Trial(draft) as held:
        return action(held)
