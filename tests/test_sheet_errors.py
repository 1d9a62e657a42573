"""The errors of a Sheet: their attributes, their sequence, and that behind each of them nothing is changed."""

from keptlast.amounts import Amount
from keptlast.errors import (CommandFailed, DividedByZero, InvalidAmount, InvalidEdits, InvalidForm, InvalidNumbers, LooseRule,
                             Never, NothingToUndo, OtherFields, Refused, UnknownField)
from keptlast.forms import Form
from keptlast.rules import Loose, Product, Rule, Total
from keptlast.sheets import Sheet
from models import NO_LISTS
from papers import told
from support import Case, EqualToAll, Odd
from test_forms import ADDING, BILL, FIELDS, NO_NAMES, SHARING, ten

NO_FORMS = [None, True, 0, "", "form", b"", [], (), {}, FIELDS, ADDING, Form, Odd(), EqualToAll()]
NO_NUMBERS = [None, True, False, "", "1", b"1", [], (1,), {}, {1}, Odd(), EqualToAll(), BILL, ADDING, Amount, [Amount(1)]]
# No edit of gross, and none of never, can stay.
NEVER = Form(["rate", "net", "tax", "gross", "never"], {
    "sum": ADDING, "share": Product(["net", "rate"], ["tax"], ways=["tax"]), "p": Total({"never": 2}, 3)})


def bill():
    return Sheet(BILL, {"rate": Amount(1, 5), "net": 100})


class ErrorCase(Case):
    def assert_refused(self, error, values, sheet, action, *args, cause=None):
        """The action raises the error, perhaps from DividedByZero of a rule, and the sheet is as it was."""
        before = told(sheet)
        raised = self.assert_raises(error, values, action, *args)
        self.assert_same(told(sheet), before)
        if cause is not None:
            self.assertIs(type(raised.__cause__), DividedByZero)
            self.assert_same(raised.__cause__.rule, cause)
        return raised


class TestBeginning(ErrorCase):
    def test_no_form(self):
        for value in NO_FORMS:
            self.assert_raises(InvalidForm, [value], Sheet, value, {})
            self.assert_raises(InvalidForm, [value], Sheet, value, 0)

    def test_loose_rules(self):
        rules = {"z": Loose(["a"]), "m": Loose(["b"]), "b": Total({"c": 1})}
        for numbers in [{}, 0, {"x": 1}, {"a": 0}]:
            self.assert_raises(LooseRule, ["m"], Sheet, Form(["a", "b", "c"], rules), numbers)

    def test_numbers_that_are_no_dict_of_fields(self):
        for value in [*[value for value in NO_LISTS if not isinstance(value, dict)], [], (), [("rate", 1)], Odd(), EqualToAll(), BILL]:
            self.assert_raises(InvalidNumbers, [None], Sheet, BILL, value)
        for key in ["x", "", "sum", "RATE", None, 0, True, ("rate",), b"rate"]:
            self.assert_raises(InvalidNumbers, [None], Sheet, BILL, {"rate": 1, "net": 1, key: 1})
            self.assert_raises(InvalidNumbers, [None], Sheet, BILL, {key: None, "rate": None})
            self.assert_raises(InvalidNumbers, [None], Sheet, BILL, {key: None})

    def test_first_wrong_number_by_the_sequence(self):
        for numbers, field in [({}, "rate"), ({"net": 1}, "rate"), ({"rate": 1}, "net"), ({"gross": 1, "net": 1}, "rate"),
                               ({"gross": 1, "tax": 1, "net": 1, "rate": 1}, "tax"), ({"gross": 1, "net": 1, "rate": 1}, "gross"),
                               ({"gross": None, "net": 1, "rate": 1}, "gross"), ({"tax": 1, "rate": 1}, "net"),
                               ({"tax": 1, "rate": 1, "net": None}, "net")]:
            self.assert_raises(InvalidNumbers, [field], Sheet, BILL, numbers)
        for value in NO_NUMBERS:
            self.assert_raises(InvalidNumbers, ["rate"], Sheet, BILL, {"net": value, "rate": value})
            self.assert_raises(InvalidNumbers, ["net"], Sheet, BILL, {"net": value, "rate": 1})
            self.assert_raises(InvalidNumbers, ["net"], Sheet, BILL, {"net": value, "rate": 0, "gross": 1})
        turned = Form(FIELDS[::-1], BILL.rules())
        self.assert_same(turned([]), ("gross", "tax"))
        self.assert_raises(InvalidNumbers, ["gross"], Sheet, turned, {"net": 1, "rate": 1})
        self.assert_raises(InvalidNumbers, ["net"], Sheet, turned, {"gross": 1, "tax": 1, "net": 1, "rate": 1})

    def test_divided_by_zero(self):
        form = Form(["net", "tax", "rate"], {"share": SHARING})
        for numbers, cause in [({"net": 0, "tax": 1}, "share"), ({"net": 0, "tax": 0}, "share"), ({"net": Amount(0), "tax": 2}, "share")]:
            error = self.assert_raises(Refused, [None], Sheet, form, numbers)
            self.assertIs(type(error.__cause__), DividedByZero)
            self.assert_same(error.__cause__.rule, cause)
        self.assert_raises(InvalidNumbers, ["tax"], Sheet, form, {"net": 0, "tax": None})
        self.assert_same(Sheet(form, {"net": 1, "tax": 0})["rate"], Amount(0))

    def test_the_first_rule_in_the_row_is_the_cause(self):
        # The row is z, a: a needs what z works out.
        rules = {"a": Product(["c", "d"], ["e"], ways=["d"]), "z": Product(["a", "c"], ["b"], ways=["c"])}
        form = Form(["a", "b", "e", "c", "d"], rules)
        for numbers, cause in [({"a": 0, "b": 0, "e": 0}, "z"), ({"a": 1, "b": 0, "e": 1}, "a"), ({"a": 0, "b": 1, "e": 0}, "z")]:
            error = self.assert_raises(Refused, [None], Sheet, form, numbers)
            self.assert_same(error.__cause__.rule, cause)
        # Both rules divide by zero, and neither needs the other one: the sorted names decide.
        rules = {"q": Product(["a", "c"], [], ways=["c"]), "p": Product(["b", "d"], [], ways=["d"])}
        for numbers, cause in [({"a": 0, "b": 0}, "p"), ({"a": 0, "b": 1}, "q"), ({"a": 1, "b": 0}, "p")]:
            error = self.assert_raises(Refused, [None], Sheet, Form(["a", "b", "c", "d"], rules), numbers)
            self.assert_same(error.__cause__.rule, cause)

    def test_a_field_on_the_right_and_a_factor(self):
        form = Form(["a", "b", "c"], {"p": Product(["a"], ["b", "c"], 3)})
        self.assert_same(Sheet(form, {"a": 6, "b": 4})["c"], Amount(1, 2))
        self.assert_same(self.assert_raises(Refused, [None], Sheet, form, {"a": 6, "b": 0}).__cause__.rule, "p")


class TestEdits(ErrorCase):
    def both(self, sheet):
        """The two ways of an edit."""
        return [sheet.edit, lambda field, number: sheet.__setitem__(field, number)]

    def test_unknown_fields(self):
        sheet = bill()
        sheet["net"] = 5
        for value in [*NO_NAMES, "x", "sum", 0, tuple(FIELDS)]:
            for edit in self.both(sheet):
                for number in [1, None]:
                    self.assert_refused(UnknownField, [value], sheet, edit, value, number)
            self.assert_refused(UnknownField, [value], sheet, lambda: sheet[value])

    def test_no_numbers(self):
        sheet = Sheet(NEVER, {"rate": 1, "net": 1})
        for value in NO_NUMBERS:
            for edit in self.both(sheet):
                for field in ["net", "gross", "never"]:
                    self.assert_refused(InvalidAmount, [value], sheet, edit, field, value)

    def test_never(self):
        sheet = Sheet(NEVER, {"rate": 1, "net": 1})
        sheet["net"] = 7
        for field, names in [("gross", ("share", "sum")), ("never", ("p",))]:
            for edit in self.both(sheet):
                for number in [0, sheet[field]]:
                    self.assert_refused(Never, [names], sheet, edit, field, number)
        form = Form(["a", "b", "c"], {"q": Total({"a": 1, "b": 1}, ways=["a"]), "p": Total({"a": 1, "c": 1}, ways=["a", "c"])})
        sheet = Sheet(form, {"b": 1})
        self.assert_refused(Never, [("q",)], sheet, sheet.edit, "a", 1)

    def test_refused(self):
        sheet = bill()
        sheet["gross"] = 240
        for edit in self.both(sheet):
            for number in [0, Amount(0)]:
                self.assert_refused(Refused, ["net"], sheet, edit, "net", number, cause="share")
        sheet = bill()
        sheet["net"] = 0
        self.assert_same(sheet["gross"], Amount(0))
        # 0 divided by 0 is refused as well.
        for number in [0, 1]:
            self.assert_refused(Refused, ["tax"], sheet.copy(), lambda: sheet.edit("tax", number), cause="share")
            self.assert_refused(Refused, ["gross"], sheet, sheet.edit, "gross", number, cause="share")
        self.assert_same([sheet.edit("rate", 3), sheet.changes], [(), 2])

    def test_the_first_rule_in_the_row_is_the_cause(self):
        rules = {"q": Product(["x", "c"], ["x2"], ways=["c"]), "p": Product(["x", "d"], ["x2"], ways=["d"]),
                 "o": Product(["e", "c"], ["x2"], ways=["e"])}
        sheet = Sheet(Form(["x", "x2", "c", "d", "e"], rules), {"x": 2, "x2": 4})
        self.assert_same([sheet["c"], sheet["d"], sheet["e"]], [Amount(2)] * 3)
        self.assert_refused(Refused, ["x"], sheet, sheet.edit, "x", 0, cause="p")
        self.assert_refused(Refused, ["x2"], sheet, sheet.edit, "x2", 0, cause="o")

    def test_a_way_that_an_edit_makes_needed(self):
        form = Form(["a", "b", "c"], {"p": Product(["a", "b"], ["c"])})
        sheet = Sheet(form, {"a": 0, "b": 5})
        self.assert_same(sheet.numbers(), {"a": Amount(0), "b": Amount(5), "c": Amount(0)})
        self.assert_refused(Refused, ["c"], sheet, sheet.edit, "c", 0, cause="p")
        sheet["a"] = 2
        self.assert_same([sheet.edit("c", 0), sheet["b"]], [("b",), Amount(0)])

    def test_signs_that_assign(self):
        sheet = Sheet(NEVER, {"rate": 1, "net": 1})

        def add(field, number):
            sheet[field] += number

        self.assert_refused(UnknownField, ["x"], sheet, add, "x", 1)
        self.assert_refused(InvalidAmount, ["1"], sheet, add, "net", "1")
        self.assert_refused(Never, [("p",)], sheet, add, "never", 1)


class TestEditAll(ErrorCase):
    def test_no_list(self):
        sheet = bill()
        for value in [*NO_LISTS, EqualToAll(), Odd(), {("net", 1): 1}, "net"]:
            self.assert_refused(InvalidEdits, [None], sheet, sheet.edit_all, value)

    def test_elements_come_ahead_of_all_edits(self):
        sheet = bill()
        for value in [None, 0, "ab", ["net", 1], (), ("net",), ("net", 1, 2), {"net": 1}, {"net", 1}, Odd(), EqualToAll(), b"ab"]:
            self.assert_refused(InvalidEdits, [0], sheet, sheet.edit_all, [value])
            self.assert_refused(InvalidEdits, [2], sheet, sheet.edit_all, [("net", 5), ("x", None), value, None])
            self.assert_refused(InvalidEdits, [1], sheet, sheet.edit_all, (("net", 0), value, ("gross", 1)))

    def assert_failed(self, position, error, values, sheet, edits):
        raised = self.assert_refused(CommandFailed, [position], sheet, sheet.edit_all, edits)
        self.assertIs(type(raised.__cause__), error)
        self.assert_same(list(vars(raised.__cause__).values()), values)
        return raised.__cause__

    def test_none_is_done(self):
        sheet = Sheet(NEVER, {"rate": 1, "net": 1})
        sheet["rate"] = 2
        ahead = [("net", 5), ("rate", 7), ("net", 6)]
        for many in range(4):
            odd = Odd()
            self.assert_failed(many, UnknownField, ["x"], sheet, [*ahead[:many], ("x", None), ("net", None)])
            self.assert_failed(many, UnknownField, [odd], sheet, [*ahead[:many], (odd, 1)])
            self.assert_failed(many, InvalidAmount, [True], sheet, (*ahead[:many], ("gross", True), ("x", 1)))
            self.assert_failed(many, Never, [("share", "sum")], sheet, [*ahead[:many], ("gross", 1), ("net", 8)])
        sheet = bill()
        for many in range(4):
            cause = self.assert_failed(many + 2, Refused, ["gross"], sheet, [*ahead[:many], ("rate", 1), ("net", 0), ("gross", 5), ("tax", 1)])
            self.assertIs(type(cause.__cause__), DividedByZero)
            self.assert_same(cause.__cause__.rule, "share")

    def test_what_could_be_taken_back_still_can(self):
        sheet = bill()
        sheet["gross"] = 240
        self.assert_failed(1, UnknownField, ["x"], sheet, [("net", 1), ("x", 1)])
        sheet.undo()
        self.assert_same(told(sheet), told(bill()))
        self.assert_raises(NothingToUndo, [], sheet.undo)


class TestForms(ErrorCase):
    def put(self, sheet):
        return [sheet.set_form, lambda form: setattr(sheet, "form", form)]

    def test_no_forms(self):
        sheet = bill()
        for value in NO_FORMS:
            for put in self.put(sheet):
                self.assert_refused(InvalidForm, [value], sheet, put, value)

    def test_loose_rules_come_ahead_of_other_fields(self):
        sheet = bill()
        for fields in [FIELDS, ["x", "net", "tax"]]:
            for put in self.put(sheet):
                self.assert_refused(LooseRule, ["q"], sheet, put, Form(fields, {
                    "z": Loose(["net"]), "q": Loose(["tax"]), "a": Total({fields[0]: 1})}))

    def test_other_fields(self):
        sheet = bill()
        for fields, field in [(["net", "tax", "gross"], "rate"), ([*FIELDS, "a"], "a"), ([*FIELDS, "zz"], "zz"),
                              (["rate", "net", "tax", "total"], "gross"), (["a", "b"], "a"), (ten(), "f0"), (["rate"], "gross")]:
            for put in self.put(sheet):
                self.assert_refused(OtherFields, [field], sheet, put, Form(fields, {}))
        ahead = Sheet(Form(ten(), {}), {field: 1 for field in ten()})
        self.assert_refused(OtherFields, ["f0"], ahead, ahead.set_form, BILL)

    def test_refused(self):
        # From a, which is 0, and b, the new rules could work out c; but from a and c, they cannot work out b.
        form = Form(["a", "b", "c"], {"p": Product(["a", "b"], ["c"])})
        sheet = Sheet(form, {"a": 0, "b": 5})
        for rules, cause in [({"p": Product(["a", "b"], ["c"], ways=["b"])}, "p"), ({"x": Product(["a", "c"], [], 2, ways=["c"])}, "x")]:
            for put in self.put(sheet):
                self.assert_refused(Refused, [None], sheet, put, Form(["c", "b", "a"], rules), cause=cause)
        sheet["b"] = 4
        sheet["a"] = 0
        self.assert_refused(Refused, [None], sheet, sheet.set_form, Form(["a", "b", "c"], {
            "z": Product(["a", "b"], ["c"], ways=["b"])}), cause="z")
        self.assert_same([sheet.changes, sheet.form == form], [2, True])


class TestUndo(ErrorCase):
    def test_nothing_to_undo(self):
        sheet = bill()
        self.assert_refused(NothingToUndo, [], sheet, sheet.undo)
        self.assert_raises(UnknownField, ["x"], sheet.edit, "x", 1)
        self.assert_refused(NothingToUndo, [], sheet, sheet.undo)
        sheet["net"] = 1
        sheet.undo()
        self.assert_refused(NothingToUndo, [], sheet, sheet.undo)
        self.assert_same(told(sheet), told(bill()))

    def test_rules_from_texts(self):
        sheet = Sheet(Form(["a", "b"], {"p": Rule.read("product a = 2 b")}), {"a": 1})
        self.assert_same(sheet["b"], Amount(1, 2))
