"""Point [84] and the interface section keptlast/gains.py."""

import random
from fractions import Fraction
from itertools import permutations

from keptlast.amounts import Amount
from keptlast.errors import InvalidRow, NotTotals, UnknownField
from keptlast.forms import Form
from keptlast.gains import gains, hangs_on
from keptlast.rows import worked_out
from keptlast.rules import Loose, Product, Total
from keptlast.sheets import Sheet
from models import NO_LISTS, any_forms, any_rows, formed, model_of, small_forms
from papers import amount, any_number, filled, row_of
from support import Case, EqualToAll, Odd
from test_forms import ADDING, BILL, FIELDS, NO_NAMES, SHARING, ten

FREE = Form(["b", "a"], {})
ADD = Form(["net", "tax", "gross"], {"sum": ADDING})
# What x and y come to is taken away again: behind the empty row, z hangs on x with a gain of 0.
NOTHING = Form(["x", "y", "s", "z"], {"p": Total({"x": 1, "y": 1, "s": -1}), "q": Total({"s": 2, "x": -2, "z": 1}, 5)})


def hanging(form, kept):
    """The sets of the kept fields on which all fields hang, by the plan that is found by trying all of them."""
    plan = {field: name for name, field in row_of(form, kept)}

    def below(field):
        if field in kept:
            return {field}
        return set().union(*[below(other) for other in form[plan[field]].fields if other != field])

    return {field: below(field) for field in form.fields}


def total_forms(count, seed, most_fields=7, most_rules=5):
    """Forms that have Totals alone."""
    chance = random.Random(seed)
    made = 0
    while made < count:
        fields = chance.sample(["a", "b1", "net", "by", "x9", "gross", "q", "r", "s", "t"], chance.randint(1, most_fields))
        rules = {}
        for name in chance.sample(["a", "sum", "r2", "r10", "z", "m"], chance.randint(0, min(most_rules, len(fields)))):
            tied = chance.sample(fields, min(len(fields), chance.choice([1, 2, 3, 3, 4])))
            ways = chance.sample(tied, chance.choice([1, len(tied), len(tied)]))
            rules[name] = Total({field: chance.choice([-3, -1, 1, 1, 2]) for field in tied}, any_number(chance), ways=ways)
        for form in formed([(fields, rules)]):
            made += 1
            yield form


class TestHangsOn(Case):
    def test_the_bill(self):
        self.assert_same([hangs_on(BILL, ["gross"], field) for field in FIELDS], [("net", "gross"), ("net",), ("net", "gross"), ("gross",)])
        self.assert_same([hangs_on(BILL, [], field) for field in FIELDS], [("rate",), ("net",), ("rate", "net"), ("rate", "net")])
        self.assert_same(hangs_on(field="rate", row=("gross",), form=BILL), ("net", "gross"))

    def test_a_kept_field_hangs_on_itself(self):
        self.assert_same([hangs_on(FREE, [], "a"), hangs_on(FREE, ["a"], "b")], [("a",), ("b",)])

    def test_a_field_that_hangs_on_none(self):
        form = Form(["a", "b", "c"], {"p": Loose(["a"]), "q": Loose(["a", "b"]), "r": Loose(["b", "c"])})
        self.assert_same([hangs_on(form, ["c"], field) for field in "abc"], [(), (), ()])

    def assert_like_the_words(self, form, rows):
        for row in rows:
            sets = hanging(form, model_of(form).kept(row))
            for field in form.fields:
                self.assert_same(hangs_on(form, row, field), tuple(other for other in form.fields if other in sets[field]))

    def test_small_forms(self):
        for form in list(small_forms())[::3]:
            self.assert_like_the_words(form, list(model_of(form).rows(3)))

    def test_any_forms(self):
        chance = random.Random(111)
        for form in any_forms(250, 112, 7, 5):
            self.assert_like_the_words(form, [[], *any_rows(model_of(form), chance, 6)])

    def test_ten_fields_and_six_rules(self):
        form = Form(ten(), {f"r{at}": Loose([f"f{at}", f"f{at + 1}", f"f{at + 4}"]) for at in range(6)})
        self.assert_like_the_words(form, [[], ten(), ten()[::2], ten()[::-3]])

    def test_errors(self):
        for row in [*NO_LISTS, EqualToAll(), Odd()]:
            for field in ["net", "x", None]:
                self.assert_raises(InvalidRow, [None], hangs_on, BILL, row, field)
        for value in [*NO_NAMES, "x", "sum"]:
            self.assert_raises(InvalidRow, [1], hangs_on, BILL, ["net", value, "x"], value)
            self.assert_raises(UnknownField, [value], hangs_on, BILL, ["net"], value)


class TestGains(Case):
    def test_the_document(self):
        found = {"gross": (Amount(0), {"net": Amount(1), "tax": Amount(1)})}
        self.assert_same([gains(ADD, []), gains(row=[], form=ADD)], [found, found])
        self.assert_same(gains(ADD, ("net", "gross")), {"tax": (Amount(0), {"gross": Amount(1), "net": Amount(-1)})})

    def test_without_rules(self):
        self.assert_same([gains(FREE, []), gains(FREE, ["a", "a"])], [{}, {}])

    def test_constants(self):
        form = Form(["a", "b", "c"], {"p": Total({"a": 2}, 5), "q": Total({"a": 4, "b": -3, "c": 1}, Amount(1, 3))})
        self.assert_same(gains(form, ["c"]), {"a": (Amount(5, 2), {}), "b": (Amount(29, 9), {"c": Amount(1, 3)})})

    def test_a_gain_of_0(self):
        self.assert_same(gains(NOTHING, []), {"s": (Amount(0), {"x": Amount(1), "y": Amount(1)}),
                                              "z": (Amount(5), {"x": Amount(0), "y": Amount(-2)})})
        self.assert_same(hangs_on(NOTHING, [], "z"), ("x", "y"))

    def assert_like_the_words(self, form, row):
        kept = model_of(form).kept(row)
        sets = hanging(form, kept)
        constants = filled(form, {field: Fraction(0) for field in kept})
        shifted = {one: filled(form, {field: Fraction(3 if field == one else 0) for field in kept}) for one in kept}
        expected = {}
        for field in sorted(set(form.fields) - set(kept)):
            expected[field] = (amount(constants[field]), {
                one: amount((shifted[one][field] - constants[field]) / 3) for one in sorted(sets[field])})
        self.assert_same(gains(form, row), expected)
        self.assert_same(sorted(expected), sorted(worked_out(form, row)))
        return sum(gain == Amount(0) for _, gained in expected.values() for gain in gained.values())

    def test_any_forms(self):
        chance = random.Random(113)
        nothing = 0
        for form in total_forms(250, 114):
            for row in [[], *any_rows(model_of(form), chance, 4)]:
                nothing += self.assert_like_the_words(form, row)
        self.assertGreater(nothing, 10)

    def test_all_orders_of_small_forms(self):
        for form in total_forms(30, 115, 4, 3):
            for row in permutations(form.fields):
                self.assert_like_the_words(form, list(row))

    def test_ten_fields_and_six_rules(self):
        form = Form(ten(), {f"r{at}": Total({f"f{at}": 1, f"f{at + 1}": 2, f"f{at + 4}": -1}, at) for at in range(6)})
        for row in [[], ten(), ten()[::2], ten()[::-3]]:
            self.assert_like_the_words(form, row)

    def test_two_sheets_differ_by_the_gains(self):
        chance = random.Random(116)
        compared = 0
        for form in total_forms(120, 117):
            kept = model_of(form).kept([])
            numbers = {field: any_number(chance) for field in kept}
            one = Sheet(form, numbers)
            told = gains(form, [])
            for field, (constant, gained) in told.items():
                total = constant
                for other in gained:
                    total = total + gained[other] * one[other]
                self.assert_same(one[field], total)
            for changed in kept:
                other = Sheet(form, {**numbers, changed: numbers[changed] + Amount(5, 3)})
                for field, (_, gained) in told.items():
                    compared += 1
                    self.assert_same(other[field] - one[field], gained.get(changed, Amount(0)) * Amount(5, 3))
        self.assertGreater(compared, 200)

    def test_gains_behind_the_edits_of_a_sheet(self):
        sheet = Sheet(ADD, {"net": 100, "tax": 20})
        sheet["gross"] = 240
        (constant, gained), = gains(ADD, ["gross"]).values()
        self.assert_same(constant + sum((gained[field] * sheet[field] for field in gained), Amount(0)), sheet["tax"])
        self.assert_same(list(gained), ["gross", "net"])

    def test_errors(self):
        for form in [ADD, BILL]:
            for row in [*NO_LISTS, EqualToAll(), Odd()]:
                self.assert_raises(InvalidRow, [None], gains, form, row)
            for value in [*NO_NAMES, "x", "sum"]:
                self.assert_raises(InvalidRow, [0], gains, form, [value, "x"])
                self.assert_raises(InvalidRow, [2], gains, form, ("net", "net", value))
        self.assert_raises(NotTotals, ["share"], gains, BILL, [])
        rules = {"z": Loose(["rate"]), "sum": ADDING, "t": Product(["net"])}
        self.assert_raises(NotTotals, ["t"], gains, Form(FIELDS, rules), ["net"])
        self.assert_raises(NotTotals, ["z"], gains, Form(FIELDS, {"z": rules["z"], "sum": ADDING}), ["net"])

    def test_what_is_returned_may_be_changed(self):
        found = gains(NOTHING, [])
        self.assertIsNot(found["s"][1], found["z"][1])
        for _, gained in found.values():
            gained.clear()
        found.clear()
        self.assert_same(len(gains(NOTHING, [])["z"][1]), 2)
        self.assertIsNot(gains(NOTHING, []), gains(NOTHING, []))
        row = ["x", "x"]
        self.assert_same([gains(NOTHING, row), row], [gains(NOTHING, ("x",)), ["x", "x"]])
        self.assertEqual(BILL["share"], SHARING)
