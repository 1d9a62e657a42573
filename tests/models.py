"""Small forms, and what the document says of them, found by trying all plans and all rows."""

import random
from itertools import chain, combinations, permutations, product

from keptlast.errors import Barred
from keptlast.forms import Form
from keptlast.rules import Loose, Product, Total

NO_LISTS = [None, True, 0, 1, "ab", "a", "", b"ab", {}, {"a": 1}, {"a"}, object()]


def lots_of(fields):
    """All lots of these fields, in their order."""
    return [lot for size in range(len(fields) + 1) for lot in combinations(fields, size)]


def sets_of(names):
    """All sets of rules, in their order."""
    return sorted((names for names in lots_of(sorted(names)) if names), key=lambda names: (len(names), names))


class Model:
    """A form by the words of the document. Its rules are a dict from names to tuples (fields, ways)."""

    def __init__(self, fields, rules):
        self.fields = tuple(fields)
        self.rules = {name: rules[name] for name in sorted(rules)}
        self.plans = [plan for plan in self.choices() if self.has_row(plan)]
        worked = {frozenset(plan.values()) for plan in self.plans}
        self.full = [lot for lot in self.lots() if frozenset(self.fields) - frozenset(lot) in worked]
        self.staying = {lot for lot in map(frozenset, self.lots()) if any(not lot & out for out in worked)}

    def lots(self):
        return lots_of(self.fields)

    def sets(self):
        return sets_of(self.rules)

    def choices(self):
        for chosen in product(*[ways for _, ways in self.rules.values()]):
            if len(set(chosen)) == len(chosen):
                yield dict(zip(self.rules, chosen))

    def has_row(self, plan, begun=()):
        if len(begun) == len(self.rules):
            return True
        return any(self.has_row(plan, (*begun, name)) for name in self.rules
                   if name not in begun and self.is_row(plan, (*begun, name)))

    def is_row(self, plan, row):
        return not any(plan[name] in self.rules[ahead][0] for at, name in enumerate(row) for ahead in row[:at])

    def can_stay(self, lot):
        return frozenset(lot) in self.staying

    def private(self, names):
        owners = {field: [name for name in names if field in self.rules[name][0]] for field in self.fields}
        return tuple(field for field in self.fields
                     if len(owners[field]) == 1 and field in self.rules[owners[field][0]][1])

    def clashes(self):
        return [lot for lot in self.lots() if not self.can_stay(lot)
                and all(self.can_stay(set(lot) - {field}) for field in lot)]

    def order(self, row):
        """By position in the row read backwards, then by the sequence."""
        backwards = list(row)[::-1]
        return sorted(self.fields, key=lambda field: (
            (0, backwards.index(field)) if field in backwards else (1, self.fields.index(field))))

    def kept(self, row):
        stay = set()
        for field in self.order(row):
            if self.can_stay(stay | {field}):
                stay.add(field)
        return self.lot(stay)

    def lot(self, fields):
        return tuple(field for field in self.fields if field in fields)

    def rows(self, most=None):
        """A row for each way of editing different fields one after another, the shortest ones first."""
        for size in range((len(self.fields) if most is None else most) + 1):
            yield from permutations(self.fields, size)


MODELS = {}


def model_of(form):
    """The model of a form; it takes long for large ones, so equal forms have the same one."""
    key = (form.fields, repr(form.rules()))
    if key not in MODELS:
        MODELS[key] = Model(form.fields, {name: (rule.fields, rule.ways) for name, rule in form.rules().items()})
    return MODELS[key]


def rules_over(fields):
    """All Loose rules with some of these fields."""
    for tied in lots_of(fields)[1:]:
        for ways in lots_of(tied)[1:]:
            yield Loose(tied, ways=ways)


def small_parts():
    """Fields and rules: all of up to three fields and up to two rules, barred ones as well."""
    for size in range(1, 4):
        fields = ("c", "a", "b")[:size]
        rules = list(rules_over(fields))
        for one, other in chain([(None, None)], product(rules, [None]), product(rules, rules)):
            yield fields, {name: rule for name, rule in [("s", one), ("r", other)] if rule is not None}


def any_parts(count, seed, most_fields=6, most_rules=4):
    """Fields and rules of all kinds, as many as asked for, always the same ones; some of them are barred."""
    chance = random.Random(seed)
    for _ in range(count):
        fields = chance.sample(["a", "b1", "net", "by", "x9", "gross", "q", "r", "s", "t"], chance.randint(1, most_fields))
        names = chance.sample(["a", "sum", "r2", "r10", "z", "m"], chance.randint(0, min(most_rules, len(fields))))
        yield tuple(fields), {name: any_rule(chance, fields) for name in names}


def any_rule(chance, fields):
    tied = chance.sample(fields, min(len(fields), chance.choice([1, 2, 2, 3, 3, 4, 5])))
    ways = chance.sample(tied, chance.choice([1, len(tied), len(tied), len(tied)]))
    kind = chance.choice(["total", "product", "loose"])
    if kind == "total":
        return Total({field: chance.choice([-2, -1, 1, 3]) for field in tied}, ways=ways)
    if kind == "product":
        many = chance.randint(0, len(tied))
        return Product(tied[:many], tied[many:], 2, ways=ways)
    return Loose(tied, ways=ways)


def formed(parts):
    """The forms with these parts, without the barred ones."""
    for fields, rules in parts:
        try:
            yield Form(fields, rules)
        except Barred:
            continue


def small_forms():
    yield from formed(small_parts())


def any_forms(count, seed, most_fields=6, most_rules=4):
    yield from formed(any_parts(count, seed, most_fields, most_rules))


def pairs_of_forms(forms, step=1):
    """Pairs of forms with the same fields, in any sequence: every one that many of them."""
    alike = {}
    for form in forms:
        alike.setdefault(tuple(sorted(form.fields)), []).append(form)
    pairs = [pair for group in alike.values() for pair in product(group, repeat=2)]
    return pairs[::step]


def any_pairs(count, seed, most_fields=5, most_rules=3):
    """Pairs of forms of all kinds with the same fields in the same sequence; many of them are nearly the same."""
    chance = random.Random(seed)
    for one in any_forms(count, seed, most_fields, most_rules):
        rules = one.rules()
        for name in chance.sample(sorted(rules), min(len(rules), chance.randint(0, 2))):
            rules[name] = any_rule(chance, one.fields)
        if rules and chance.random() < 0.3:
            rules[chance.choice(["new", "a", "z"])] = rules.pop(chance.choice(sorted(rules)))
        for other in formed([(one.fields, rules)]):
            yield one, other


def any_rows(model, chance, count):
    """Rows of any length that edit fields several times."""
    for _ in range(count):
        yield [chance.choice(model.fields) for _ in range(chance.randint(0, 12))]


def tangled_forms(count, seed):
    """Forms whose rules share many fields: in some of them, an edit throws out several fields."""
    chance = random.Random(seed)
    made = 0
    while made < count:
        fields = [f"f{at}" for at in range(chance.randint(5, 6))]
        rules = {}
        for name in ["p", "q", "r", "s"][:chance.randint(3, 4)]:
            tied = chance.sample(fields, chance.randint(2, 4))
            rules[name] = Loose(tied, ways=tied if chance.random() < 0.6 else chance.sample(tied, 2))
        for form in formed([(fields, rules)]):
            made += 1
            yield form
