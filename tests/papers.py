"""Sheets by the words of the document: numbers are fractions, plans are found by trying all of them."""

import random
from fractions import Fraction
from itertools import count

from keptlast.amounts import Amount
from keptlast.rules import Loose, Total
from models import any_forms, any_rule, formed, model_of


class NoWay(Exception):
    """A way divides by zero; it is that of the rule."""

    def __init__(self, rule):
        self.rule = rule


def fraction(number):
    return Fraction(number.top, number.bottom) if isinstance(number, Amount) else Fraction(number)


def amount(number):
    return Amount(number.numerator, number.denominator)


def solved(rule, field, numbers):
    """What a way works out; None if it divides by zero."""
    if isinstance(rule, Total):
        others = sum(weight * numbers[other] for other, weight in rule.weights.items() if other != field)
        return (fraction(rule.total) - others) / rule.weights[field]
    left = right = Fraction(1)
    for other in rule.left:
        left *= numbers[other] if other != field else 1
    for other in rule.right:
        right *= numbers[other] if other != field else 1
    right *= fraction(rule.factor)
    above, below = (right, left) if field in rule.left else (left, right)
    return None if below == 0 else above / below


def row_of(form, kept):
    """The row of the plan that keeps these fields."""
    worked = set(form.fields) - set(kept)
    plan = next(plan for plan in model_of(form).plans if set(plan.values()) == worked)
    row, known = [], set(kept)
    while len(row) < len(plan):
        name = next(name for name in plan if plan[name] not in known and set(form[name].fields) <= known | {plan[name]})
        row.append((name, plan[name]))
        known.add(plan[name])
    return row


def filled(form, numbers):
    """The numbers of all fields, told those of a full lot."""
    found = dict(numbers)
    for name, field in row_of(form, list(numbers)):
        found[field] = solved(form[name], field, found)
        if found[field] is None:
            raise NoWay(name)
    return found


class Paper:
    """What a Sheet must be."""

    def __init__(self, form, numbers):
        numbers = {field: fraction(number) for field, number in numbers.items()}
        self.states = [(form, form.fields, model_of(form).kept([]), filled(form, numbers))]

    def edit(self, field, number):
        form, order, _, numbers = self.states[-1]
        self.go_on(form, [field, *[other for other in order if other != field]], {**numbers, field: fraction(number)})

    def put(self, form):
        self.go_on(form, self.states[-1][1], self.states[-1][3])

    def go_on(self, form, order, numbers):
        kept = model_of(form).kept(order[::-1])
        self.states.append((form, tuple(order), kept, filled(form, {field: numbers[field] for field in kept})))

    def told(self):
        form, order, kept, numbers = self.states[-1]
        numbers = {field: amount(numbers[field]) for field in sorted(numbers)}
        lines = []
        for field in order:
            text = str(numbers[field])
            lines.append(field + " " * (8 - len(field)) + (" * " if field in kept else "   ") + " " * (12 - len(text)) + text)
        return [form.fields, form.rules(), order, kept, numbers, lines, len(self.states) - 1]


def told(sheet):
    """All that a Sheet tells."""
    return [sheet.form.fields, sheet.form.rules(), sheet.order, sheet.kept, sheet.numbers(), sheet.table(), sheet.changes]


def numbered_forms(many, seed, most_fields=6, most_rules=4):
    """Forms without Loose rules, as many as asked for."""
    made = 0
    for batch in count():
        for form in any_forms(20, seed * 1000 + batch, most_fields, most_rules):
            if not any(isinstance(rule, Loose) for rule in form.rules().values()):
                made += 1
                yield form
                if made == many:
                    return


def any_number(chance):
    return chance.choice([0, 1, -1, 2, 7, -12, 10 ** 15, Amount(1, 2), Amount(-7, 3), Amount(10 ** 12, 7), Amount(0), Amount(5)])


def changed_forms(form, chance):
    """Forms with the same fields in another sequence, and with one rule more, fewer or otherwise."""
    fields = chance.sample(form.fields, len(form.fields))
    rules = form.rules()
    if rules and chance.random() < 0.5:
        rules.pop(chance.choice(sorted(rules)))
    if len(rules) < 6 and chance.random() < 0.6:
        rules[chance.choice(["a", "new", "z"])] = any_rule(chance, form.fields)
    if not any(isinstance(rule, Loose) for rule in rules.values()):
        yield from formed([(fields, rules)])


def beginnings(many, seed, most_fields=6, most_rules=4):
    """Tuples of a form and of numbers for its kept fields that can be worked out."""
    chance = random.Random(seed)
    for form in numbered_forms(many, seed, most_fields, most_rules):
        for _ in range(20):
            numbers = {field: any_number(chance) for field in model_of(form).kept([])}
            try:
                Paper(form, numbers)
            except NoWay:
                continue
            yield form, numbers
            break
