"""All errors of the package."""


class FormError(ValueError):
    """Something that was passed is not valid."""


class InvalidAmount(FormError):
    """A value that is no number, or no number that may stand there."""

    def __init__(self, value):
        self.value = value


class InvalidName(FormError):
    """A value that is no NAME."""

    def __init__(self, value):
        self.value = value


class InvalidWeights(FormError):
    """Weights of a Total that are none, told by their key."""

    def __init__(self, key):
        self.key = key


class InvalidSide(FormError):
    """Fields of a Product or of a Loose rule that are none."""

    def __init__(self, side, position):
        self.side = side
        self.position = position


class InvalidWays(FormError):
    """Ways of a rule that are none."""

    def __init__(self, position):
        self.position = position


class InvalidNumbers(FormError):
    """Numbers that lack a field, or that have something else for it."""

    def __init__(self, field):
        self.field = field


class InvalidRule(FormError):
    """A value that is no Rule."""

    def __init__(self, value):
        self.value = value


class InvalidFields(FormError):
    """Fields of a form that are none."""

    def __init__(self, position):
        self.position = position


class InvalidRules(FormError):
    """Rules of a form that are none, told by their name."""

    def __init__(self, name):
        self.name = name


class InvalidForm(FormError):
    """A value that is no Form."""

    def __init__(self, value):
        self.value = value


class InvalidSet(FormError):
    """A value that is no set of rules."""

    def __init__(self, position):
        self.position = position


class InvalidLot(FormError):
    """A value that is no lot of fields."""

    def __init__(self, position):
        self.position = position


class InvalidRow(FormError):
    """A value that is no row of edits."""

    def __init__(self, position):
        self.position = position


class InvalidFacts(FormError):
    """A value that is no list of facts."""

    def __init__(self, position):
        self.position = position


class InvalidCount(FormError):
    """A value that is no COUNT, or one beyond its limit."""

    def __init__(self, value):
        self.value = value


class InvalidEdits(FormError):
    """A value that is no list of edits."""

    def __init__(self, position):
        self.position = position


class InvalidText(FormError):
    """A text that is not written as it must be, told by its first wrong line."""

    def __init__(self, line):
        self.line = line


class InvalidClaim(FormError):
    """A value that is no claim."""

    def __init__(self, value):
        self.value = value


class InvalidLine(FormError):
    """A value that is no line for a desk."""

    def __init__(self, value):
        self.value = value


class Barred(FormError):
    """A form that has a set of rules without a private field."""

    def __init__(self, rule_set):
        self.rule_set = rule_set


class OtherFields(FormError):
    """Two forms of which only one has the field."""

    def __init__(self, field):
        self.field = field


class OtherSequence(FormError):
    """Two forms with the same fields in different sequences."""

    def __init__(self, position):
        self.position = position


class Contradicted(FormError):
    """Facts that put a field ahead of itself."""

    def __init__(self, field):
        self.field = field


class NotWeb(FormError):
    """A form that is no web."""

    def __init__(self, name):
        self.name = name


class NotTotals(FormError):
    """A form with a rule that is no Total."""

    def __init__(self, rule):
        self.rule = rule


class LooseRule(FormError):
    """A form with a Loose rule, where all rules must work out numbers."""

    def __init__(self, rule):
        self.rule = rule


class TooMany(FormError):
    """More things of a kind than the limit allows."""

    def __init__(self, kind, limit):
        self.kind = kind
        self.limit = limit


class MissingError(LookupError):
    """Something that was asked for is not there."""


class UnknownField(MissingError):
    """A value that is no field, or no fitting one."""

    def __init__(self, value):
        self.value = value


class UnknownRule(MissingError):
    """A value that is no name of a rule."""

    def __init__(self, value):
        self.value = value


class StateError(RuntimeError):
    """Something that cannot be done as things are."""


class Never(StateError):
    """An edit of a field that can never stay."""

    def __init__(self, rule_set):
        self.rule_set = rule_set


class Refused(StateError):
    """An edit that was refused because a way divides by zero."""

    def __init__(self, field):
        self.field = field


class CommandFailed(StateError):
    """One of several edits or lines that failed: none of them is done."""

    def __init__(self, position):
        self.position = position


class NameTaken(StateError):
    """A name that rules of both forms have."""

    def __init__(self, name):
        self.name = name


class NothingToUndo(StateError):
    """There is no change that could be taken back."""


class AmountError(ArithmeticError):
    """Something that cannot be worked out with numbers."""


class DividedByZero(AmountError):
    """A division by 0, by the way of a rule or by no rule."""

    def __init__(self, rule):
        self.rule = rule
