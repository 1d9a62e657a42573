"""Point [23], and the operators of forms: side by side, without a rule, equal, within [35]."""

from itertools import permutations, product

from keptlast.errors import Barred, InvalidForm, NameTaken, OtherFields, TooMany, UnknownRule
from keptlast.forms import Form
from keptlast.rules import Loose, Product, Total
from models import any_forms, formed, model_of, rules_over, small_forms
from support import Case, EqualToAll, Odd
from test_forms import ADDING, BILL, FIELDS, NO_NAMES, SHARING, ten

NO_FORMS = [None, True, False, 0, 1, "", "a", "sum", b"a", [], (), {}, {"a"}, ["a"], FIELDS, {"sum": ADDING}, ADDING, Form,
            Odd(), EqualToAll()]


class TestSideBySide(Case):
    def test_fields_and_rules_of_both(self):
        one = Form(["a", "b"], {"q": Loose(["a", "b"])})
        other = Form(["c", "b", "d"], {"p": Loose(["c", "d"])})
        self.assert_same((one | other).fields, ("a", "b", "c", "d"))
        self.assert_same((other | one).fields, ("c", "b", "d", "a"))
        self.assert_same((one | other).rules(), {"p": Loose(["c", "d"]), "q": Loose(["a", "b"])})
        self.assertEqual(one | other, Form(["a", "b", "c", "d"], {**one.rules(), **other.rules()}))
        self.assert_same([one.fields, one.names(), other.fields, other.names()], [("a", "b"), ["q"], ("c", "b", "d"), ["p"]])

    def test_without_rules(self):
        self.assertEqual(BILL | Form(["net"], {}), BILL)
        self.assertEqual(Form(["net", "x"], {}) | BILL, Form(["net", "x", "rate", "tax", "gross"], BILL.rules()))

    def test_rules_under_the_same_field_names(self):
        parts = [Form(FIELDS, {"sum": ADDING}), Form(FIELDS, {"share": SHARING})]
        self.assertEqual(parts[0] | parts[1], BILL)
        self.assertEqual(parts[1] | parts[0], BILL)

    def test_no_forms(self):
        for value in NO_FORMS:
            self.assert_raises(InvalidForm, [value], lambda: BILL | value)

    def test_names_that_are_taken(self):
        one = Form(["a", "b", "c"], {"z": Loose(["a"]), "p": Loose(["b"]), "m": Loose(["c"])})
        other = Form(["d", "e", "f"], {"q": Loose(["d"]), "z": Loose(["e"]), "p": Loose(["f"])})
        self.assert_raises(NameTaken, ["p"], lambda: one | other)
        self.assert_raises(NameTaken, ["p"], lambda: other | one)
        # Also if the rules are equal.
        self.assert_raises(NameTaken, ["share"], lambda: BILL | BILL)

    def test_errors_of_the_class(self):
        many = Form(ten(), {f"r{at}": Loose([f"f{at}"]) for at in range(4)})
        self.assert_raises(TooMany, ["fields", 10], lambda: many | Form(["more"], {"s": Loose(["more"])}))
        self.assert_raises(TooMany, ["rules", 6], lambda: many | Form(
            ["f0", "f5", "f6"], {"s": Loose(["f0"]), "t": Loose(["f5"]), "u": Loose(["f6"])}))
        self.assert_raises(Barred, [("r0", "s")], lambda: many | Form(["f0"], {"s": Loose(["f0"])}))
        self.assertEqual(len(many | Form(["f5", "f6"], {"s": Loose(["f5"]), "t": Loose(["f6"])})), 6)

    def test_the_first_error_is_raised(self):
        many = Form(ten(), {f"r{at}": Loose([f"f{at}"]) for at in range(5)})
        other = Form(["more", "f0"], {"r4": Loose(["more"]), "s": Loose(["f0"])})
        self.assert_raises(NameTaken, ["r4"], lambda: many | other)
        other = Form(["more", "f0"], {"s": Loose(["more"]), "t": Loose(["f0"])})
        self.assert_raises(TooMany, ["fields", 10], lambda: many | other)
        other = Form(["f0", "f9"], {"s": Loose(["f0"]), "t": Loose(["f9"])})
        self.assert_raises(TooMany, ["rules", 6], lambda: many | other)


class TestWithoutARule(Case):
    def test_the_rule_is_gone(self):
        self.assertEqual(BILL - "sum", Form(FIELDS, {"share": SHARING}))
        self.assertEqual(BILL - "sum" - "share", Form(FIELDS, {}))
        self.assert_same((BILL - "share").fields, tuple(FIELDS))
        self.assert_same(BILL.names(), ["share", "sum"])

    def test_each_small_form(self):
        for form in small_forms():
            for name in form.names():
                rules = form.rules()
                del rules[name]
                self.assertEqual(form - name, Form(form.fields, rules))

    def test_unknown_rules(self):
        for value in [*NO_NAMES, "net", "su", ["sum"], BILL]:
            self.assert_raises(UnknownRule, [value], lambda: BILL - value)
        self.assert_raises(UnknownRule, ["sum"], lambda: BILL - "sum" - "sum")


class TestEqual(Case):
    def assert_equal(self, one, other, expected):
        self.assert_same([one == other, other == one, one != other, other != one],
                         [expected, expected, not expected, not expected])

    def test_equal_parts(self):
        self.assert_equal(BILL, Form(tuple(FIELDS), {"share": Product(["rate", "net"], ["tax"]), "sum": ADDING}), True)
        self.assert_equal(Form(["a"], {}), Form(["a"], {}), True)
        self.assert_equal(Form(["a", "b"], {"p": Loose(["a", "b"])}), Form(["a", "b"], {"p": Loose(["b", "a"], ways=["b", "a"])}),
                          True)

    def test_other_parts(self):
        forms = [BILL, Form(["net", "rate", "tax", "gross"], BILL.rules()), Form(FIELDS, {"sum": ADDING}),
                 Form(FIELDS, {"sum": SHARING, "share": ADDING}), Form(FIELDS, {"sum": ADDING, "shares": SHARING}),
                 Form(FIELDS, {"sum": ADDING, "share": Product(["net", "rate"], ["tax"], ways=["tax"])}),
                 Form(FIELDS, {"sum": Total({"net": 1, "tax": 1, "gross": -1}, 1), "share": SHARING}),
                 Form(FIELDS, {"sum": Loose(["net", "tax", "gross"]), "share": SHARING}),
                 Form([*FIELDS, "more"], BILL.rules()), Form(FIELDS, {}), Form(FIELDS[:3], {})]
        for (at, one), (other_at, other) in product(enumerate(forms), repeat=2):
            self.assert_equal(one, other, at == other_at)

    def test_all_sequences_of_fields(self):
        for one, other in product(permutations(["a", "b", "c"]), repeat=2):
            self.assert_equal(Form(one, {"p": Loose(["a", "b"])}), Form(other, {"p": Loose(["a", "b"])}), one == other)

    def test_values_of_other_kinds(self):
        for value in [*NO_FORMS[:-1], BILL.rules(), BILL.fields, BILL.names()]:
            self.assert_equal(BILL, value, False)


class TestWithin(Case):
    def assert_compared(self, one, other, below, above):
        """below: whether one is within other; above: whether other is within one."""
        self.assert_same([one <= other, one < other, one >= other, one > other],
                         [below, below and not above, above, above and not below])

    def test_the_example(self):
        fewer = Form(FIELDS, {"sum": ADDING, "share": Product(["net", "rate"], ["tax"], ways=["tax"])})
        self.assert_compared(fewer, BILL, True, False)
        self.assert_compared(BILL, fewer, False, True)
        self.assert_compared(BILL, BILL, True, True)
        self.assert_compared(BILL, BILL - "sum", True, False)

    def test_neither_is_within_the_other(self):
        one, other = Form(["a", "b"], {"p": Loose(["a"])}), Form(["b", "a"], {"q": Loose(["b"])})
        self.assert_compared(one, other, False, False)

    def test_other_rules_and_the_same_lots(self):
        one = Form(["a", "b", "c"], {"p": Loose(["a", "b"]), "q": Loose(["b", "c"])})
        other = Form(["c", "b", "a"], {"x": Loose(["a", "c"]), "y": Loose(["c", "b"])})
        self.assert_compared(one, other, True, True)
        self.assert_same(one == other, False)

    def assert_like_the_words(self, one, other):
        first, second = model_of(one).staying, model_of(other).staying
        self.assert_compared(one, other, first <= second, second <= first)

    def test_small_forms_against_the_words(self):
        rules = list(rules_over(["a", "b"]))
        fields = [("a", "b"), ("b", "a")]
        parts = [(fields, {}) for fields in fields]
        parts = parts + [(sequence, {"p": rule}) for sequence in fields for rule in rules]
        parts = parts + [(sequence, {"p": one, "q": other}) for sequence in fields for one in rules for other in rules]
        forms = list(formed(parts))
        self.assertGreater(len(forms), 30)
        for one, other in product(forms, repeat=2):
            self.assert_like_the_words(one, other)

    def test_forms_of_all_kinds_against_the_words(self):
        forms = {}
        for form in [*small_forms(), *any_forms(300, 11, 4, 3)]:
            forms.setdefault(tuple(sorted(form.fields)), []).append(form)
        for alike in forms.values():
            for one, other in list(product(alike, repeat=2))[::17]:
                self.assert_like_the_words(one, other)

    def test_no_forms(self):
        for value in NO_FORMS:
            for action in [lambda: BILL <= value, lambda: BILL < value, lambda: BILL >= value, lambda: BILL > value]:
                self.assert_raises(InvalidForm, [value], action)

    def test_other_fields(self):
        one, other = Form(["d", "b", "a"], {}), Form(["c", "a", "d", "e"], {})
        for action in [lambda: one <= other, lambda: one < other, lambda: one >= other, lambda: one > other,
                       lambda: other <= one, lambda: other < one, lambda: other >= one, lambda: other > one]:
            self.assert_raises(OtherFields, ["b"], action)
        self.assert_raises(OtherFields, ["a10"], lambda: Form(["a9", "x"], {}) <= Form(["x", "a10"], {}))
        self.assert_raises(OtherFields, ["z"], lambda: Form(["a"], {}) > Form(["z", "a"], {}))
