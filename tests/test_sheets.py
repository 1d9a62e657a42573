"""Points [81] to [83] and the interface section keptlast/sheets.py, but for the errors."""

import random

from keptlast.amounts import Amount
from keptlast.clashes import clash_rules
from keptlast.errors import CommandFailed, DividedByZero, Never, NothingToUndo, Refused
from keptlast.forms import Form
from keptlast.rules import Product, Total
from keptlast.sheets import Sheet
from models import model_of
from papers import NoWay, Paper, any_number, beginnings, changed_forms, told
from support import Case
from test_forms import ADDING, BILL, FIELDS, NO_NAMES, SHARING, ten

FREE = Form(["b", "a"], {})
LATER = Form(["gross", "tax", "rate", "net"], {"sum": ADDING, "share": Product(["net", "rate"], ["tax"], ways=["tax"])})


def bill():
    return Sheet(BILL, {"rate": Amount(1, 5), "net": 100})


class Stop(Exception):
    pass


class SheetCase(Case):
    def assert_told(self, sheet, paper):
        self.assert_same(told(sheet), paper.told())
        form, numbers = sheet.form, sheet.numbers()
        self.assert_same([sheet[field] for field in sorted(form.fields)], list(numbers.values()))
        self.assert_same([len(sheet), all(field in sheet for field in form.fields)], [len(form.fields), True])
        for name in form.names():
            self.assert_same(form[name].is_true(numbers), True)

    def assert_taken_back(self, sheet, paper):
        """All changes can be taken back, up to the beginning."""
        while len(paper.states) > 1:
            paper.states.pop()
            self.assertIs(sheet.undo(), None)
            self.assert_told(sheet, paper)
        self.assert_raises(NothingToUndo, [], sheet.undo)
        self.assert_told(sheet, paper)


class TestBill(SheetCase):
    def test_the_bill(self):
        sheet = bill()
        self.assert_same([str(sheet["tax"]), str(sheet["gross"]), sheet.edit("gross", 240), str(sheet["tax"]), str(sheet["rate"])],
                         ["20", "120", ("rate",), "140", "7/5"])
        self.assert_same([sheet.changes, sheet.kept, sheet.order], [1, ("net", "gross"), ("gross", "rate", "net", "tax")])
        self.assert_same(sheet.table(), ["gross    *          240", "rate                7/5", "net      *          100",
                                         "tax                 140"])
        self.assert_same(sheet.numbers(), {"gross": Amount(240), "net": Amount(100), "rate": Amount(7, 5), "tax": Amount(140)})

    def test_the_beginning(self):
        sheet = bill()
        self.assertEqual(sheet.form, BILL)
        self.assert_same([sheet.order, sheet.kept, sheet.changes, len(sheet)], [tuple(FIELDS), ("rate", "net"), 0, 4])
        self.assert_same(sheet.numbers(), {"gross": Amount(120), "net": Amount(100), "rate": Amount(1, 5), "tax": Amount(20)})
        self.assert_same(sheet.table()[0], "rate     *          1/5")

    def test_by_names(self):
        sheet = Sheet(numbers={"net": 100, "rate": Amount(1, 5)}, form=BILL)
        self.assert_same(told(sheet), told(bill()))
        self.assert_same(sheet.edit(number=240, field="gross"), ("rate",))
        self.assert_same(sheet.edit_all(edits=[("net", 200)]), [()])
        self.assertIs(sheet.set_form(form=LATER), None)
        self.assert_same(sheet.tried(action=lambda held: held.changes), 3)

    def test_without_rules(self):
        sheet = Sheet(FREE, {"a": 1, "b": Amount(1, 2)})
        self.assert_same([sheet.order, sheet.kept, sheet.numbers()], [("b", "a"), ("b", "a"), {"a": Amount(1), "b": Amount(1, 2)}])
        self.assert_same([sheet.edit("a", -3), sheet.order, sheet["a"], sheet.kept], [(), ("a", "b"), Amount(-3), ("b", "a")])

    def test_no_field_is_kept(self):
        sheet = Sheet(Form(["a"], {"p": Total({"a": 2}, 3)}), {})
        self.assert_same([sheet.kept, sheet.numbers(), sheet.table()], [(), {"a": Amount(3, 2)}, ["a" + " " * 19 + "3/2"]])

    def test_fields_in_it(self):
        sheet = bill()
        for value in [*NO_NAMES, "sum", "x", 0, tuple(FIELDS)]:
            self.assert_same(value in sheet, False)
        self.assert_same([field in sheet for field in FIELDS], [True] * 4)

    def test_no_iteration(self):
        with self.assertRaises(TypeError):
            iter(bill())

    def test_table_of_long_names_and_numbers(self):
        form = Form(["abcdefgh", "b"], {"p": Total({"abcdefgh": 1, "b": 10 ** 11}, 0)})
        sheet = Sheet(form, {"abcdefgh": Amount(-10 ** 12, 7)})
        self.assert_same(sheet.table(), ["abcdefgh * -1000000000000/7", "b                  10/7"])
        sheet["b"] = 123456789012
        self.assert_same(sheet.table()[0], "b        * 123456789012")

    def test_numbers_come_as_amounts(self):
        sheet = bill()
        sheet["gross"] = 240
        self.assert_same([sheet["gross"], sheet.numbers()["gross"]], [Amount(240)] * 2)
        sheet["gross"] = Amount(480, 2)
        self.assert_same(sheet["gross"], Amount(240))

    def test_signs_that_assign(self):
        sheet = bill()
        sheet["net"] += 50
        self.assert_same([sheet["net"], sheet["gross"], sheet.order], [Amount(150), Amount(180), ("net", "rate", "tax", "gross")])
        sheet["gross"] -= Amount(1, 2)
        self.assert_same([sheet["gross"], sheet.kept], [Amount(359, 2), ("net", "gross")])
        sheet["gross"] *= 2
        sheet["gross"] //= 7
        self.assert_same([sheet["gross"], sheet.changes], [Amount(51), 4])
        sheet["gross"] %= 7
        sheet["gross"] **= 2
        self.assert_same([sheet["gross"], sheet.changes], [Amount(4), 6])

    def test_an_edit_of_a_field_that_came_in(self):
        sheet = bill()
        self.assert_same(sheet.edit("tax", 30), ("net",))
        self.assert_same([sheet["net"], sheet["rate"], sheet["gross"]], [Amount(150), Amount(1, 5), Amount(180)])
        self.assert_same(sheet.edit("gross", 60), ("rate",))
        self.assert_same([sheet["rate"], sheet["net"], sheet["tax"]], [Amount(1), Amount(30), Amount(30)])

    def test_fields_that_come_in_keep_their_numbers(self):
        form = Form(["a", "b", "c", "d"], {"p": Product(["a", "d"], ["b"], ways=["d"]), "q": Total({"a": 1, "c": 1})})
        sheet = Sheet(form, {"a": 3, "b": 12})
        self.assert_same([sheet.kept, sheet["c"], sheet["d"]], [("a", "b"), Amount(-3), Amount(4)])
        self.assert_same([sheet.edit("c", -6), sheet.kept, sheet["a"], sheet["b"], sheet["d"]],
                         [("a",), ("b", "c"), Amount(6), Amount(12), Amount(2)])
        sheet.form = Form(form.fields, {"q": form["q"]})
        self.assert_same([sheet.kept, sheet["d"]], [("b", "c", "d"), Amount(2)])

    def test_an_edit_with_the_number_that_is_there(self):
        sheet = bill()
        numbers = sheet.numbers()
        for field in ["net", "gross", "rate", "tax", "tax"]:
            sheet[field] = sheet[field]
            self.assert_same(sheet.numbers(), numbers)
        self.assert_same([sheet.changes, sheet.order, sheet.kept], [5, ("tax", "rate", "gross", "net"), ("rate", "tax")])


class TestRowsOfEdits(SheetCase):
    def assert_row(self, sheet, paper, chance, many):
        """Edits and forms one after another; those that are refused change nothing."""
        refused = 0
        for _ in range(many):
            before = paper.states[-1]
            form = before[0]
            if chance.random() < 0.15:
                refused += self.put_form(sheet, paper, chance)
            elif chance.random() < 0.1 and len(paper.states) > 1:
                paper.states.pop()
                self.assertIs(sheet.undo(), None)
            else:
                field = chance.choice(form.fields)
                number = sheet[field] if chance.random() < 0.1 else any_number(chance)
                refused += self.edit(sheet, paper, field, number, chance.random() < 0.5)
            self.assert_told(sheet, paper)
        return refused

    def edit(self, sheet, paper, field, number, by_item):
        form, order, kept, _ = paper.states[-1]
        if not model_of(form).can_stay([field]):
            self.assert_raises(Never, [clash_rules(form, [field])], sheet.edit, field, number)
            return 1
        try:
            paper.edit(field, number)
        except NoWay as way:
            error = self.assert_raises(Refused, [field], sheet.edit, field, number)
            self.assert_zero(error, way)
            return 1
        now = paper.states[-1][2]
        if by_item:
            sheet[field] = number
        else:
            self.assert_same(sheet.edit(field, number), tuple(other for other in kept if other not in now))
        self.assertIn(field, sheet.kept)
        return 0

    def put_form(self, sheet, paper, chance):
        for form in changed_forms(paper.states[-1][0], chance):
            try:
                paper.put(form)
            except NoWay as way:
                self.assert_zero(self.assert_raises(Refused, [None], sheet.set_form, form), way)
                return 1
            if chance.random() < 0.5:
                sheet.form = form
            else:
                self.assertIs(sheet.set_form(form), None)
            self.assertEqual(sheet.form, form)
        return 0

    def assert_zero(self, error, way):
        self.assertIs(type(error.__cause__), DividedByZero)
        self.assert_same(error.__cause__.rule, way.rule)

    def test_any_rows(self):
        chance = random.Random(101)
        refused = 0
        for form, numbers in beginnings(130, 102):
            sheet, paper = Sheet(form, numbers), Paper(form, numbers)
            self.assert_told(sheet, paper)
            refused += self.assert_row(sheet, paper, chance, 12)
            self.assert_taken_back(sheet, paper)
        self.assertGreater(refused, 50)

    def test_a_long_row(self):
        chance = random.Random(103)
        form = Form(ten(), {"a": Total({"f0": 1, "f1": -2, "f2": 1}, 5), "b": Total({"f2": 1, "f3": 1, "f4": 3}),
                            "c": Product(["f4", "f5"], ["f6"], 2), "d": Total({"f6": 1, "f7": -1, "f8": 1}, Amount(1, 3)),
                            "e": Total({"f0": 2, "f8": 1, "f9": 1}), "f": Total({"f3": 1, "f7": 1})})
        numbers = {field: at + 2 for at, field in enumerate(form([]))}
        sheet, paper = Sheet(form, numbers), Paper(form, numbers)
        for _ in range(80):
            self.edit(sheet, paper, chance.choice(form.fields), Amount(chance.randint(1, 999), 7), True)
            self.assert_told(sheet, paper)
        self.assertGreater(sheet.changes, 60)
        self.assert_taken_back(sheet, paper)

    def test_edit_all(self):
        chance = random.Random(104)
        done = 0
        for form, numbers in beginnings(120, 105):
            sheet, paper = Sheet(form, numbers), Paper(form, numbers)
            edits = [(chance.choice(form.fields), any_number(chance)) for _ in range(chance.randint(0, 5))]
            outs, failed = [], None
            for at, (field, number) in enumerate(edits):
                before = told(sheet)
                one = Sheet(form, numbers)
                try:
                    one.edit_all(edits[:at])
                    outs.append(one.edit(field, number))
                except (Never, Refused) as error:
                    failed = at, type(error), list(vars(error).values())
                    break
                self.assert_same(told(sheet), before)
            if failed is None:
                done += 1
                self.assert_same(sheet.edit_all(chance.choice([list, tuple])(edits)), outs)
                for field, number in edits:
                    paper.edit(field, number)
                self.assert_taken_back(sheet, paper)
            else:
                error = self.assert_raises(CommandFailed, [failed[0]], sheet.edit_all, edits)
                self.assertIs(type(error.__cause__), failed[1])
                self.assert_same(list(vars(error.__cause__).values()), failed[2])
                self.assert_taken_back(sheet, paper)
        self.assertGreater(min(done, 120 - done), 15)

    def test_edit_all_of_the_bill(self):
        sheet = bill()
        self.assert_same(sheet.edit_all([("gross", 240), ("rate", Amount(1, 4)), ("rate", 1)]), [("rate",), ("gross",), ()])
        self.assert_same([sheet.changes, sheet.order, sheet["gross"]], [3, ("rate", "gross", "net", "tax"), Amount(200)])
        sheet.undo()
        self.assert_same([sheet["gross"], sheet.changes], [Amount(125), 2])
        self.assert_same([sheet.edit_all([]), sheet.edit_all(()), sheet.changes], [[], [], 2])


class TestForms(SheetCase):
    def test_by_the_property_and_by_the_method(self):
        for put in [lambda sheet, form: sheet.set_form(form), lambda sheet, form: setattr(sheet, "form", form)]:
            sheet = bill()
            sheet["gross"] = 240
            self.assertIs(put(sheet, LATER), None)
            self.assertEqual(sheet.form, LATER)
            self.assert_same([sheet.order, sheet.kept, sheet.changes], [("gross", "rate", "net", "tax"), ("rate", "net"), 2])
            self.assert_same(sheet.numbers(), {"gross": Amount(240), "net": Amount(100), "rate": Amount(7, 5), "tax": Amount(140)})
            sheet.undo()
            self.assert_same([sheet.form.fields, sheet.kept, sheet.changes], [tuple(FIELDS), ("net", "gross"), 1])

    def test_fields_in_another_sequence(self):
        sheet = bill()
        sheet.form = Form(["gross", "tax", "net", "rate"], {"sum": ADDING, "share": SHARING})
        self.assert_same([sheet.order, sheet.kept, sheet.form.fields], [tuple(FIELDS), ("net", "rate"), ("gross", "tax", "net", "rate")])
        self.assert_same(sheet.edit("gross", 240), ("rate",))
        self.assert_same(sheet.kept, ("gross", "net"))

    def test_the_form_that_is_there(self):
        sheet = bill()
        sheet.form = sheet.form
        sheet.set_form(BILL)
        self.assert_same([sheet.changes, sheet.numbers()], [2, bill().numbers()])

    def test_rules_fewer_and_more(self):
        sheet = bill()
        sheet.form = BILL - "sum"
        self.assert_same([sheet.kept, sheet["gross"]], [("rate", "net", "gross"), Amount(120)])
        sheet["gross"] = 7
        sheet.form = BILL
        self.assert_same([sheet.kept, sheet.order], [("net", "gross"), ("gross", "rate", "net", "tax")])
        self.assert_same([sheet["tax"], sheet["rate"]], [Amount(-93), Amount(-93, 100)])


class TestUndo(SheetCase):
    def test_up_to_the_beginning(self):
        sheet = bill()
        sheet["gross"] = 240
        sheet.form = LATER
        sheet.edit_all([("rate", 1), ("net", 1)])
        sheet["rate"] = 0
        for at in range(5, 0, -1):
            self.assert_same(sheet.changes, at)
            self.assertIs(sheet.undo(), None)
        self.assert_same(told(sheet), told(bill()))
        self.assert_raises(NothingToUndo, [], sheet.undo)

    def test_edits_behind_an_undo(self):
        sheet = bill()
        sheet["net"] = 1
        sheet["net"] = 2
        sheet.undo()
        sheet["net"] = 3
        sheet.undo()
        self.assert_same([sheet["net"], sheet.changes, sheet.order], [Amount(1), 1, ("net", "rate", "tax", "gross")])
        sheet.undo()
        self.assert_same(told(sheet), told(bill()))

    def test_each_edit_of_edit_all_is_one(self):
        sheet = bill()
        sheet.edit_all([("net", 1), ("net", 1), ("gross", 2)])
        self.assert_same(sheet.changes, 3)
        sheet.undo()
        sheet.undo()
        self.assert_same([sheet.changes, sheet["net"], sheet["gross"]], [1, Amount(1), Amount(6, 5)])

    def test_many_edits(self):
        sheet = bill()
        for at in range(120):
            sheet["net"] = at
        for at in range(119, -1, -1):
            self.assert_same([sheet["net"], sheet.changes], [Amount(at), at + 1])
            sheet.undo()
        self.assert_same(told(sheet), told(bill()))


class TestCopies(SheetCase):
    def test_a_copy_is_equal_in_all(self):
        chance = random.Random(106)
        rows = TestRowsOfEdits()
        for form, numbers in beginnings(30, 107):
            sheet, paper = Sheet(form, numbers), Paper(form, numbers)
            rows.assert_row(sheet, paper, chance, 5)
            twin = sheet.copy()
            self.assertIs(type(twin), Sheet)
            self.assertIsNot(twin, sheet)
            self.assert_told(twin, paper)
            before = tuple(paper.states)
            rows.assert_row(twin, paper, chance, 3)
            self.assert_taken_back(twin, paper)
            twin = sheet.copy()
            for one in [sheet, twin]:
                paper.states = list(before)
                self.assert_told(one, paper)
                self.assert_taken_back(one, paper)

    def test_a_copy_changes_by_itself(self):
        sheet = bill()
        sheet["gross"] = 240
        twin = sheet.copy()
        twin["rate"] = 1
        twin.form = LATER
        sheet.undo()
        self.assert_same([sheet.changes, twin.changes, twin["gross"]], [0, 3, Amount(200)])
        self.assert_same(told(sheet), told(bill()))
        for _ in range(3):
            twin.undo()
        self.assert_same(told(twin), told(bill()))
        self.assert_raises(NothingToUndo, [], twin.undo)


class TestTried(SheetCase):
    def test_the_answer_is_returned(self):
        sheet, answer = bill(), ["x"]

        def action(held):
            self.assertIs(held, sheet)
            held["gross"] = 240
            held.form = LATER
            answer.append(held.changes)
            return answer

        self.assertIs(sheet.tried(action), answer)
        self.assert_same(answer, ["x", 2])
        self.assert_same(told(sheet), told(bill()))
        self.assertIs(sheet.tried(lambda held: None), None)

    def test_what_was_taken_back_can_be_taken_back_again(self):
        sheet = bill()
        sheet["net"] = 1
        sheet["gross"] = 2
        before = told(sheet)

        def action(held):
            held.undo()
            held.undo()
            held["tax"] = 5
            return held.changes

        self.assert_same([sheet.tried(action), told(sheet)], [1, before])
        sheet.undo()
        sheet.undo()
        self.assert_same(told(sheet), told(bill()))

    def test_an_error_goes_on(self):
        sheet, stop = bill(), Stop()
        sheet["net"] = 1
        before = told(sheet)

        def action(held):
            held.undo()
            held["gross"] = 9
            raise stop

        with self.assertRaises(Stop) as caught:
            sheet.tried(action)
        self.assertIs(caught.exception, stop)
        self.assert_same(told(sheet), before)
        self.assert_raises(CommandFailed, [1], sheet.tried, lambda held: held.edit_all([("net", 2), ("x", 1)]))
        self.assert_raises(Refused, ["gross"], sheet.tried, lambda held: held.edit("net", 0) or held.edit("gross", 1))
        self.assert_same(told(sheet), before)

    def test_within_another_one(self):
        sheet = bill()

        def inner(held):
            held["net"] = 7
            held.undo()
            held.undo()
            raise Stop()

        def outer(held):
            held["gross"] = 240
            before = told(held)
            with self.assertRaises(Stop):
                held.tried(inner)
            self.assert_same(told(held), before)
            return held.tried(lambda third: third.edit("rate", 1)), held.kept

        self.assert_same(sheet.tried(outer), (("gross",), ("net", "gross")))
        self.assert_same(told(sheet), told(bill()))


class TestAnswers(SheetCase):
    def test_what_is_passed_stays_and_may_be_changed(self):
        numbers, edits = {"rate": Amount(1, 5), "net": 100}, [("gross", 240), ("rate", 1)]
        sheet = Sheet(BILL, numbers)
        sheet.edit_all(edits)
        self.assert_same([numbers, edits], [{"rate": Amount(1, 5), "net": 100}, [("gross", 240), ("rate", 1)]])
        before = told(sheet)
        numbers.clear()
        edits.clear()
        self.assert_same(told(sheet), before)
        sheet.undo()
        sheet.undo()
        self.assert_same(told(sheet), told(bill()))

    def test_what_is_returned_may_be_changed(self):
        sheet = bill()
        numbers, table, outs = sheet.numbers(), sheet.table(), sheet.edit_all([("gross", 240)])
        before = told(sheet)
        for value in [numbers, table, outs, sheet.numbers(), sheet.table(), sheet.form.rules()]:
            value.clear()
        self.assert_same(told(sheet), before)
        self.assertIsNot(sheet.numbers(), sheet.numbers())
        self.assertIsNot(sheet.table(), sheet.table())

    def test_repeated_queries(self):
        sheet = bill()
        self.assert_same(told(sheet), told(sheet))
        for action in [lambda: sheet["net"], lambda: sheet.copy().edit("gross", 1), lambda: sheet.tried(lambda held: held.edit("tax", 3))]:
            self.assert_same(action(), action())
            self.assert_same(told(sheet), told(bill()))

    def test_the_passed_form_stays(self):
        form = Form(FIELDS, {"sum": ADDING, "share": SHARING})
        sheet = Sheet(form, {"rate": 1, "net": 1})
        sheet["gross"] = 3
        self.assertEqual(form, BILL)
        self.assert_same(form([]), ("rate", "net"))
