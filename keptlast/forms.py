"""Forms: fields in a fixed sequence, and rules that work out some of them from others."""

from keptlast.checks import check_field, check_row, check_same_fields
from keptlast.errors import Barred, InvalidFields, InvalidForm, InvalidRules, InvalidSet
from keptlast.errors import NameTaken, TooMany, UnknownRule
from keptlast.kinds import is_list, is_name, sorted_names, wrong_choice_at, wrong_name_at
from keptlast.rules import Rule
from keptlast.shapes import Shape, order_of


class Form:
    """One to ten fields in a fixed sequence, and up to six rules, each with a name of its own."""

    MOST_FIELDS = 10
    MOST_RULES = 6

    def __init__(self, fields, rules):
        check_fields(fields)
        if len(fields) == 0:
            raise InvalidFields(None)
        check_rules(rules, fields)
        if len(fields) > self.MOST_FIELDS:
            raise TooMany("fields", self.MOST_FIELDS)
        if len(rules) > self.MOST_RULES:
            raise TooMany("rules", self.MOST_RULES)
        self._fields = tuple(fields)
        self._rules = {name: rules[name] for name in sorted_names(rules)}
        self._shape = Shape(self._fields, self._rules)
        # Without private fields, a set of rules keeps even the empty lot from staying.
        barring = self._shape.bar(0)
        if barring is not None:
            raise Barred(barring)

    @classmethod
    def of(cls, *fields, **rules):
        """The form with these fields, and with these rules under their names."""
        return cls(fields, rules)

    @property
    def fields(self):
        """The tuple of all fields, in their sequence."""
        return self._fields

    def names(self):
        """The sorted list of the names of the rules."""
        return list(self._rules)

    def rules(self):
        """The dict from the names, sorted, to the rules."""
        return dict(self._rules)

    def rules_of(self, field):
        """The sorted tuple of the names of the rules with this field."""
        check_field(self, field)
        return tuple([name for name in self._rules if field in self._rules[name].fields])

    def __getitem__(self, at):
        return rule_named(self._rules, at)

    def __iter__(self):
        raise TypeError("a form is not gone through")

    def __contains__(self, x):
        return isinstance(x, str) and x in self._fields

    def __len__(self):
        return len(self._rules)

    def __or__(self, other):
        if not isinstance(other, Form):
            raise InvalidForm(other)
        for name in self._rules:
            if name in other._rules:
                raise NameTaken(name)
        fields = [*self._fields, *[field for field in other._fields if field not in self]]
        return Form(fields, {**self._rules, **other._rules})

    def __sub__(self, other):
        rule_named(self._rules, other)
        return Form(self._fields, {name: self._rules[name] for name in self._rules if name != other})

    def __call__(self, row):
        check_row(self, row)
        return self._shape.kept_in(order_of(self._fields, row))

    def __eq__(self, other):
        return isinstance(other, Form) and self._fields == other._fields and self._rules == other._rules

    def __le__(self, other):
        _check_comparable(self, other)
        return self._shape.is_within(other._shape)

    def __ge__(self, other):
        _check_comparable(self, other)
        return other._shape.is_within(self._shape)

    def __lt__(self, other):
        _check_comparable(self, other)
        return self._shape.is_within(other._shape) and not other._shape.is_within(self._shape)

    def __gt__(self, other):
        _check_comparable(self, other)
        return other._shape.is_within(self._shape) and not self._shape.is_within(other._shape)


def private(form, names):
    """The tuple of the private fields of a set of rules."""
    if not is_list(names) or len(names) == 0:
        raise InvalidSet(None)
    position = wrong_choice_at(names, form.names())
    if position is not None:
        raise InvalidSet(position)
    shape = shape_of(form)
    return shape.lot_of(shape.private_of(sorted_names(names)))


def rule_sets(form):
    """Yields all sets of rules, in their order."""
    for names in shape_of(form).sets():
        yield names


def shape_of(form):
    """The Shape of a form."""
    return form._shape


def check_fields(fields):
    """InvalidFields unless the fields are a list of different NAMES, perhaps empty."""
    if not is_list(fields):
        raise InvalidFields(None)
    position = wrong_name_at(fields, [])
    if position is not None:
        raise InvalidFields(position)


def check_rules(rules, fields=None):
    """InvalidRules unless the rules are a dict from NAMES to Rules, which have no other fields, if these are told."""
    if not isinstance(rules, dict) or not all([is_name(key) for key in rules]):
        raise InvalidRules(None)
    for name in sorted_names(rules):
        if not isinstance(rules[name], Rule):
            raise InvalidRules(name)
        if fields is not None and not all([field in fields for field in rules[name].fields]):
            raise InvalidRules(name)


def rule_named(rules, name):
    """The rule with this name; UnknownRule for any value that is no name of one of these rules."""
    if not isinstance(name, str) or name not in rules:
        raise UnknownRule(name)
    return rules[name]


def _check_comparable(one, other):
    if not isinstance(other, Form):
        raise InvalidForm(other)
    check_same_fields(one, other)
