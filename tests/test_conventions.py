"""Point [2], and the names of the interface."""

import copy
import inspect

from keptlast import (amounts, clashes, desk, drafts, errors, exchange, forms, gains, judge, known, pairs, peels, rows, rules, sheets,
                      texts, webs)
from keptlast.amounts import Amount
from keptlast.drafts import Draft, Trial
from keptlast.errors import InvalidAmount, InvalidCount, InvalidNumbers, InvalidSide, InvalidWays, UnknownField
from keptlast.forms import Form
from keptlast.rules import Loose, Product, Rule, Total
from keptlast.sheets import Sheet
from support import Case, Odd

SIGNATURES = {
    amounts.Amount: "top, bottom=1",
    amounts.Amount.of: "number",
    amounts.Amount.read: "text",
    amounts.Amount.over: "self, other",
    amounts.Amount.rounded: "self, places",
    rules.Rule.read: "text",
    rules.Total: "weights, total=0, *, ways=None",
    rules.Product: "left, right=(), factor=1, *, ways=None",
    rules.Loose: "fields, *, ways=None",
    rules.Total.worked_out: "self, field, numbers",
    rules.Product.worked_out: "self, field, numbers",
    rules.Total.is_true: "self, numbers",
    rules.Product.is_true: "self, numbers",
    rules.Loose.is_true: "self, numbers",
    rules.Total.text: "self",
    rules.Product.text: "self",
    rules.Loose.text: "self",
    forms.Form: "fields, rules",
    forms.Form.of: "*fields, **rules",
    forms.Form.names: "self",
    forms.Form.rules: "self",
    forms.Form.rules_of: "self, field",
    forms.Form.__call__: "self, row",
    forms.private: "form, names",
    forms.rule_sets: "form",
    drafts.Draft: "form=None",
    drafts.Draft.set_fields: "self, fields",
    drafts.Draft.names: "self",
    drafts.Draft.made: "self",
    drafts.Draft.undo: "self",
    drafts.Draft.copy: "self",
    drafts.Trial: "draft",
    drafts.tried: "draft, action",
    peels.can_stay: "form, lot",
    peels.plan_paper: "form, lot",
    peels.bar_paper: "form, lot",
    peels.is_plan_paper: "form, lot, value",
    peels.is_bar_paper: "form, lot, value",
    peels.plan_of: "form, lot",
    peels.plan_row: "form, lot",
    peels.full_lots: "form",
    peels.count_full: "form",
    clashes.clashes: "form",
    clashes.is_clash: "form, lot",
    clashes.clash_rules: "form, lot",
    clashes.never: "form",
    clashes.first_clash: "form, field",
    clashes.lots_paper: "one, other",
    clashes.is_lots_paper: "one, other, value",
    clashes.lot_apart: "one, other",
    rows.order_behind: "form, row",
    rows.kept: "form, row",
    rows.worked_out: "form, row",
    rows.plan_behind: "form, row",
    rows.thrown_out: "form, row, field",
    rows.comes_in: "form, row, field",
    rows.kept_along: "form, row",
    rows.row_paper: "form, row",
    rows.is_row_paper: "form, row, value",
    pairs.are_alike: "one, other",
    pairs.parting: "one, other",
    pairs.alike_paper: "one, other",
    pairs.is_alike_paper: "one, other, value",
    pairs.loss: "one, other",
    pairs.are_unions: "one, other",
    exchange.sure_last: "form",
    exchange.last_paper: "form, many",
    exchange.is_last_paper: "form, many, value",
    exchange.is_one_for_one: "form",
    exchange.two_out: "form",
    exchange.most_out: "form",
    exchange.rivals: "form, field",
    exchange.fewest_ways: "form, many",
    webs.is_web: "form",
    webs.ends: "form",
    webs.count_trees: "form",
    known.possible: "form, facts",
    known.sure: "form, facts",
    known.lost: "form, facts",
    known.order_for: "form, facts, lot",
    known.stands_paper: "form, facts",
    known.is_stands_paper: "form, facts, value",
    sheets.Sheet: "form, numbers",
    sheets.Sheet.set_form: "self, form",
    sheets.Sheet.numbers: "self",
    sheets.Sheet.table: "self",
    sheets.Sheet.edit: "self, field, number",
    sheets.Sheet.edit_all: "self, edits",
    sheets.Sheet.undo: "self",
    sheets.Sheet.copy: "self",
    sheets.Sheet.tried: "self, action",
    gains.hangs_on: "form, row, field",
    gains.gains: "form, row",
    texts.form_text: "form",
    texts.read_form: "text",
    judge.is_claim: "value",
    judge.is_certificate: "claim, value",
    judge.certificate_of: "claim",
    desk.Desk: "sheet",
    desk.Desk.sheet: "self",
    desk.Desk.do: "self, line",
    desk.Desk.do_all: "self, *lines",
    desk.Desk.log: "self",
}
GENERATORS = [forms.rule_sets, peels.full_lots, clashes.clashes, rows.kept_along]
RULES = [Total({"b": 1, "a": 2}, 3, ways=["b"]), Product(["b"], ["a"], 3, ways=["b"]), Loose(["b", "a"], ways=["b"])]


class TestInterface(Case):
    def test_parameters(self):
        for action, expected in SIGNATURES.items():
            with self.subTest(action=action):
                self.assertEqual(str(inspect.signature(action)), f"({expected})")

    def test_all_stand_in_their_files(self):
        # By its dotted name each was found in the file of the interface; there it must be defined, too.
        listed = {
            "amounts": [amounts.Amount],
            "rules": [rules.Rule, rules.Total, rules.Product, rules.Loose],
            "forms": [forms.Form, forms.private, forms.rule_sets],
            "drafts": [drafts.Draft, drafts.Trial, drafts.tried],
            "peels": [peels.can_stay, peels.plan_paper, peels.bar_paper, peels.is_plan_paper, peels.is_bar_paper,
                      peels.plan_of, peels.plan_row, peels.full_lots, peels.count_full],
            "clashes": [clashes.clashes, clashes.is_clash, clashes.clash_rules, clashes.never, clashes.first_clash,
                        clashes.lots_paper, clashes.is_lots_paper, clashes.lot_apart],
            "rows": [rows.order_behind, rows.kept, rows.worked_out, rows.plan_behind, rows.thrown_out, rows.comes_in,
                     rows.kept_along, rows.row_paper, rows.is_row_paper],
            "pairs": [pairs.are_alike, pairs.parting, pairs.alike_paper, pairs.is_alike_paper, pairs.loss,
                      pairs.are_unions],
            "exchange": [exchange.sure_last, exchange.last_paper, exchange.is_last_paper, exchange.is_one_for_one,
                         exchange.two_out, exchange.most_out, exchange.rivals, exchange.fewest_ways],
            "webs": [webs.is_web, webs.ends, webs.count_trees],
            "known": [known.possible, known.sure, known.lost, known.order_for, known.stands_paper, known.is_stands_paper],
            "sheets": [sheets.Sheet],
            "gains": [gains.hangs_on, gains.gains],
            "texts": [texts.form_text, texts.read_form],
            "judge": [judge.is_claim, judge.is_certificate, judge.certificate_of],
            "desk": [desk.Desk],
        }
        for name, found in listed.items():
            for value in found:
                self.assertEqual(value.__module__, f"keptlast.{name}")

    def test_generators(self):
        for action in SIGNATURES:
            self.assertEqual(inspect.isgeneratorfunction(action), action in GENERATORS)

    def test_operators_stand_in_the_class_itself(self):
        names = ["add", "radd", "sub", "rsub", "mul", "rmul", "floordiv", "rfloordiv", "mod", "rmod", "pow", "neg", "abs",
                 "lt", "le", "gt", "ge", "eq", "str", "repr", "bool"]
        for name in names:
            self.assertIn(f"__{name}__", vars(Amount))
        for name in ["getitem", "contains", "len", "or", "sub", "call", "eq", "le", "lt", "ge", "gt"]:
            self.assertIn(f"__{name}__", vars(Form))
        for name in ["getitem", "setitem", "iadd", "isub", "len"]:
            self.assertIn(f"__{name}__", vars(Draft))
        for name in ["enter", "exit"]:
            self.assertIn(f"__{name}__", vars(Trial))
        for name in ["getitem", "setitem", "contains", "len"]:
            self.assertIn(f"__{name}__", vars(Sheet))

    def test_methods_and_properties_stand_in_the_class_itself(self):
        for name in ["MOST_FIELDS", "MOST_RULES", "fields", "of", "names", "rules", "rules_of"]:
            self.assertIn(name, vars(Form))
        for name in ["sequence", "set_fields", "made", "names", "undo", "copy"]:
            self.assertIn(name, vars(Draft))
        for name in ["order", "kept", "form", "set_form", "numbers", "table", "edit", "edit_all", "undo", "changes", "copy", "tried"]:
            self.assertIn(name, vars(Sheet))
        for name in ["sheet", "do", "do_all", "log"]:
            self.assertIn(name, vars(desk.Desk))
        for name in ["order", "kept", "form", "changes"]:
            self.assertIsInstance(vars(Sheet)[name], property)
        self.assertIsInstance(inspect.getattr_static(Form, "of"), classmethod)

    def test_amounts_are_not_changed_in_place(self):
        for name in ["iadd", "isub", "imul", "ifloordiv", "imod", "ipow"]:
            self.assertFalse(hasattr(Amount, f"__{name}__"))


class TestObjectsDoNotChange(Case):
    def test_properties_cannot_be_assigned(self):
        names = ["fields", "ways", "weights", "total", "left", "right", "factor"]
        for rule in RULES:
            for name in names:
                if hasattr(rule, name):
                    with self.subTest(rule=rule, name=name), self.assertRaises(AttributeError):
                        setattr(rule, name, ("b",))
        self.assert_same([rule.text() for rule in RULES],
                         ["sum 2 a + b = 3 by b", "product b = 3 a by b", "loose a b by b"])

    def test_properties_of_a_sheet_cannot_be_assigned(self):
        sheet = Sheet(Form(["a"], {}), {"a": 1})
        for name in ["order", "kept", "changes"]:
            with self.assertRaises(AttributeError):
                setattr(sheet, name, ())
        self.assert_same([sheet.order, sheet.kept, sheet.changes], [("a",), ("a",), 0])

    def test_what_is_returned_may_be_changed(self):
        rule = Total({"b": 1, "a": 2})
        held = rule.weights
        held["c"] = 5
        held["a"] = 0
        del held["b"]
        self.assert_same(rule.weights, {"a": 2, "b": 1})
        self.assert_same(rule.text(), "sum 2 a + b = 0")

    def test_what_is_passed_stays_and_may_be_changed(self):
        passed = [{"b": 1, "a": -1}, ["d", "c"], ["b", "a"], ["c", "a"], {"a": 1, "b": 0, "c": 2, "d": 3}]
        before = copy.deepcopy(passed)
        weights, left, fields, ways, numbers = passed
        made = [Total(weights, ways=fields), Product(left, fields, ways=ways), Loose(fields, ways=["b"])]
        for rule in made:
            rule.is_true(numbers)
            rule.text()
        made[0].worked_out("a", numbers)
        with self.assertRaises(InvalidNumbers):
            made[0].is_true({"a": 1})
        self.assert_same(passed, before)
        texts = [rule.text() for rule in made]
        for value in passed:
            value.clear()
        self.assert_same([rule.text() for rule in made], texts)

    def test_two_answers_are_two_objects(self):
        rule = Total({"b": 1, "a": 2})
        one, other = rule.weights, rule.weights
        self.assertIsNot(one, other)
        self.assert_same(one, other)

    def test_an_error_changes_nothing(self):
        ways = ["b", "x"]
        self.assert_raises(InvalidWays, [1], Loose, ["a", "b"], ways=ways)
        self.assert_same(ways, ["b", "x"])
        one = Amount(1, 3)
        self.assert_raises(InvalidCount, [99], one.rounded, 99)
        self.assert_same(one, Amount(1, 3))


class TestLists(Case):
    def test_lists_may_be_tuples(self):
        self.assertEqual(Total({"a": 1, "b": 1}, ways=("a",)), Total({"a": 1, "b": 1}, ways=["a"]))
        self.assertEqual(Product(("a",), ("b",), 2, ways=("b",)), Product(["a"], ["b"], 2, ways=["b"]))
        self.assertEqual(Loose(("a", "b"), ways=("b",)), Loose(["a", "b"], ways=["b"]))

    def test_lists_are_returned_as_tuples(self):
        for rule in RULES:
            self.assert_same([rule.fields, rule.ways], [("a", "b"), ("b",)])

    def test_first_invalid_element_decides(self):
        self.assert_raises(InvalidSide, ["left", 1], Product, ["a", "a", "B", 3])
        self.assert_raises(InvalidSide, ["left", 1], Product, ["a", "B", "a", 3])
        self.assert_raises(InvalidWays, [1], Loose, ["a", "b"], ways=["a", "x", "a"])
        self.assert_raises(InvalidWays, [1], Loose, ["a", "b"], ways=["a", "a", "x"])


class TestSequences(Case):
    def test_keys_in_any_sequence(self):
        one, other = Total({"c": 1, "b": 2, "a": 3}), Total({"a": 3, "b": 2, "c": 1})
        self.assertEqual(one, other)
        self.assert_same([one.text(), one.weights], [other.text(), other.weights])
        self.assert_same(list(one.weights), ["a", "b", "c"])
        for numbers in [{"a": 1, "b": 1, "c": 1}, {"c": 1, "b": 1, "a": 1}]:
            self.assert_same(one.worked_out("a", numbers), Amount(-1))
            self.assert_raises(InvalidNumbers, ["d"], Total({"d": 1, "a": 1, "e": 1}).is_true, numbers)

    def test_names_are_sorted_as_python_compares_strings(self):
        self.assert_same(Loose(["b", "a9", "a10", "a", "ab"]).fields, ("a", "a10", "a9", "ab", "b"))


class TestValues(Case):
    def test_names(self):
        for name in ["a", "z", "a0", "z9", "abcdefgh", "a1234567"]:
            self.assert_same(Loose([name]).fields, (name,))
        for name in ["", "abcdefghi", "0", "0a", "A", "aB", "a_", "a b", " ", "a.", "a-b", "-a", "a\n"]:
            with self.subTest(name=name):
                self.assert_raises(InvalidSide, ["fields", 0], Loose, [name])

    def test_booleans_are_no_integers(self):
        for value in [True, False]:
            self.assert_raises(InvalidAmount, [value], Amount, value)
            self.assert_raises(InvalidAmount, [value], Amount, 1, value)
            self.assert_raises(InvalidAmount, [value], Amount.of, value)
            self.assert_raises(InvalidAmount, [value], Total, {"a": 1}, value)
            self.assert_raises(InvalidAmount, [value], Product, ["a"], [], value)
            self.assert_raises(InvalidCount, [value], Amount(1).rounded, value)
            self.assert_raises(errors.InvalidWeights, ["a"], Total, {"a": value})
            self.assert_raises(InvalidNumbers, ["a"], Loose(["a"]).is_true, {"a": value})

    def test_errors_contain_what_was_passed(self):
        value = Odd()
        for action in [lambda: Amount(value), lambda: Amount(1) + value, lambda: value * Amount(1),
                       lambda: Amount(1).over(value), lambda: Total({"a": 1}, value)]:
            with self.assertRaises(InvalidAmount) as caught:
                action()
            self.assertIs(caught.exception.value, value)
        with self.assertRaises(UnknownField) as caught:
            Total({"a": 1}).worked_out(value, {})
        self.assertIs(caught.exception.value, value)

    def test_repeated_queries_are_equal(self):
        for rule in RULES:
            self.assert_same([rule.fields, rule.ways, rule.text(), repr(rule)],
                             [rule.fields, rule.ways, rule.text(), repr(rule)])
            numbers = {"a": 1, "b": 1}
            self.assert_same(rule.is_true(numbers), rule.is_true(numbers))
