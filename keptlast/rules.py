"""The rules that tie fields, and their texts."""

from keptlast.amounts import Amount, is_number
from keptlast.errors import FormError, InvalidAmount, InvalidNumbers, InvalidSide, InvalidText
from keptlast.errors import InvalidWays, InvalidWeights, UnknownField
from keptlast.kinds import is_list, is_name, is_whole, sorted_names, wrong_choice_at, wrong_name_at


class Rule:
    """The base class of Total, Product and Loose, which is not created itself."""

    @staticmethod
    def read(text):
        """The rule with this text."""
        if not isinstance(text, str):
            raise InvalidText(1)
        front, _, back = text.partition(" = ")
        kind, _, head = front.partition(" ")
        words = back.split(" ")
        named = head.split(" ") if kind == "loose" else words[1:]
        for fields, ways in _readings(named):
            try:
                rule = _rule_of(kind, head, words[0], fields, ways)
            except FormError:
                continue
            # What was read generously is the text of the rule only if the rule writes it just so.
            if rule.text() == text:
                return rule
        raise InvalidText(1)


class Total(Rule):
    """True if the sum of the weights, each times the number of its field, is the total."""

    def __init__(self, weights, total=0, *, ways=None):
        _check_weights(weights)
        self._total = Amount.of(total)
        self._fields = sorted_names(weights)
        self._weights = {field: weights[field] for field in self._fields}
        self._ways = _checked_ways(self._fields, ways)

    @property
    def fields(self):
        """All fields, sorted."""
        return self._fields

    @property
    def ways(self):
        """The fields that the rule can work out, sorted."""
        return self._ways

    @property
    def weights(self):
        """The dict from the fields, sorted, to their weights."""
        return dict(self._weights)

    @property
    def total(self):
        """What the terms come to, an Amount."""
        return self._total

    def is_true(self, numbers):
        """Whether the rule is true for these numbers."""
        return self._sum(_amounts(self._fields, numbers)) == self._total

    def worked_out(self, field, numbers):
        """The Amount that a way works out from the numbers of the other fields."""
        _check_way(self._ways, field)
        others = _amounts(_others(self._fields, field), numbers)
        return (self._total - self._sum(others)).over(self._weights[field])

    def _sum(self, amounts):
        """The weights of some fields, each times its Amount, added up."""
        result = Amount(0)
        for field in amounts:
            result = result + self._weights[field] * amounts[field]
        return result

    def text(self):
        """The text of the rule."""
        terms = " ".join([_signed_term(field, self._weights[field]) for field in self._fields])
        head = f"-{terms[2:]}" if terms.startswith("-") else terms[2:]
        return f"sum {head} = {str(self._total)}{_ways_text(self._fields, self._ways)}"

    def __eq__(self, other):
        return (isinstance(other, Total) and self._weights == other._weights
                and self._total == other._total and self._ways == other._ways)

    def __repr__(self):
        return f"Rule({self.text()!r})"


class Product(Rule):
    """True if the product of the left numbers is the factor times the product of the right ones."""

    def __init__(self, left, right=(), factor=1, *, ways=None):
        _check_side("left", left, [])
        _check_side("right", right, left)
        if len(left) == 0 and len(right) == 0:
            raise InvalidSide("left", None)
        self._factor = Amount.of(factor)
        if self._factor.sign == 0:
            raise InvalidAmount(factor)
        self._left = sorted_names(left)
        self._right = sorted_names(right)
        self._fields = sorted_names([*left, *right])
        self._ways = _checked_ways(self._fields, ways)

    @property
    def fields(self):
        """All fields, sorted."""
        return self._fields

    @property
    def ways(self):
        """The fields that the rule can work out, sorted."""
        return self._ways

    @property
    def left(self):
        """The fields on the left, sorted."""
        return self._left

    @property
    def right(self):
        """The fields on the right, sorted."""
        return self._right

    @property
    def factor(self):
        """The factor of the right side, an Amount."""
        return self._factor

    def is_true(self, numbers):
        """Whether the rule is true for these numbers."""
        amounts = _amounts(self._fields, numbers)
        return _multiplied(self._left, amounts) == self._factor * _multiplied(self._right, amounts)

    def worked_out(self, field, numbers):
        """The Amount that a way works out from the numbers of the other fields."""
        _check_way(self._ways, field)
        others = _amounts(_others(self._fields, field), numbers)
        left = _multiplied(_others(self._left, field), others)
        right = self._factor * _multiplied(_others(self._right, field), others)
        # The factor is never 0, so it may stand with the right side in both directions.
        return right.over(left) if field in self._left else left.over(right)

    def text(self):
        """The text of the rule."""
        left = " ".join(self._left) if len(self._left) > 0 else "1"
        right = "".join([f" {field}" for field in self._right])
        return f"product {left} = {str(self._factor)}{right}{_ways_text(self._fields, self._ways)}"

    def __eq__(self, other):
        return (isinstance(other, Product) and self._left == other._left and self._right == other._right
                and self._factor == other._factor and self._ways == other._ways)

    def __repr__(self):
        return f"Rule({self.text()!r})"


class Loose(Rule):
    """Says nothing about numbers, and is always true."""

    def __init__(self, fields, *, ways=None):
        _check_side("fields", fields, [])
        if len(fields) == 0:
            raise InvalidSide("fields", None)
        self._fields = sorted_names(fields)
        self._ways = _checked_ways(self._fields, ways)

    @property
    def fields(self):
        """All fields, sorted."""
        return self._fields

    @property
    def ways(self):
        """The fields that the rule can work out, sorted."""
        return self._ways

    def is_true(self, numbers):
        """True, for all numbers that are valid."""
        _amounts(self._fields, numbers)
        return True

    def text(self):
        """The text of the rule."""
        named = " ".join(self._fields)
        return f"loose {named}{_ways_text(self._fields, self._ways)}"

    def __eq__(self, other):
        return isinstance(other, Loose) and self._fields == other._fields and self._ways == other._ways

    def __repr__(self):
        return f"Rule({self.text()!r})"


def _check_weights(weights):
    if not isinstance(weights, dict) or len(weights) == 0 or not all([is_name(key) for key in weights]):
        raise InvalidWeights(None)
    for key in sorted_names(weights):
        if not is_whole(weights[key]) or weights[key] == 0:
            raise InvalidWeights(key)


def _check_side(side, names, earlier):
    if not is_list(names):
        raise InvalidSide(side, None)
    position = wrong_name_at(names, earlier)
    if position is not None:
        raise InvalidSide(side, position)


def _checked_ways(fields, ways):
    """The sorted ways of a rule with these fields."""
    if ways is None:
        return fields
    if not is_list(ways) or len(ways) == 0:
        raise InvalidWays(None)
    position = wrong_choice_at(ways, fields)
    if position is not None:
        raise InvalidWays(position)
    return sorted_names(ways)


def _check_way(ways, field):
    if not isinstance(field, str) or field not in ways:
        raise UnknownField(field)


def _amounts(fields, numbers):
    """The dict from these sorted fields to their Amounts."""
    if not isinstance(numbers, dict):
        raise InvalidNumbers(None)
    for field in fields:
        if field not in numbers or not is_number(numbers[field]):
            raise InvalidNumbers(field)
    return {field: Amount.of(numbers[field]) for field in fields}


def _others(fields, field):
    return [other for other in fields if other != field]


def _multiplied(fields, amounts):
    result = Amount(1)
    for field in fields:
        result = result * amounts[field]
    return result


def _signed_term(field, weight):
    sign = "-" if weight < 0 else "+"
    if abs(weight) == 1:
        return f"{sign} {field}"
    return f"{sign} {abs(weight)} {field}"


def _ways_text(fields, ways):
    if ways == fields:
        return ""
    named = " ".join(ways)
    return f" by {named}"


def _readings(words):
    """All pairs of fields and ways that words may stand for: each `by` may be a field, too."""
    found = [(words, None)]
    for at, word in enumerate(words):
        if word == "by":
            found.append((words[:at], words[at + 1:]))
    return found


def _rule_of(kind, head, number, fields, ways):
    """The rule that is told by the parts of a text; a FormError if they tell none."""
    if kind == "sum":
        return Total(_weights_of(head), Amount.read(number), ways=ways)
    if kind == "product":
        left = [] if head == "1" else head.split(" ")
        return Product(left, fields, Amount.read(number), ways=ways)
    if kind == "loose":
        return Loose(fields, ways=ways)
    raise InvalidText(1)


def _weights_of(head):
    """The weights that are told by the terms of a sum."""
    signed = f"- {head[1:]}" if head.startswith("-") else f"+ {head}"
    terms = []
    for word in signed.split(" "):
        if word in ("+", "-"):
            terms.append([word])
        else:
            # The first word is always a sign.
            terms[-1].append(word)
    weights = {}
    for term in terms:
        if len(term) not in (2, 3):
            raise InvalidText(1)
        size = 1 if len(term) == 2 else Amount.read(term[1]).top
        weights[term[-1]] = size if term[0] == "+" else -size
    return weights
