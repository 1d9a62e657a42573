"""Points [41], [42] and [43] and the interface section keptlast/rows.py."""

import random
from itertools import product

from keptlast.errors import InvalidRow, UnknownField
from keptlast.forms import Form
from keptlast.peels import full_lots, is_bar_paper, is_plan_paper, plan_of
from keptlast.rows import (comes_in, is_row_paper, kept, kept_along, order_behind, plan_behind, row_paper, thrown_out,
                           worked_out)
from keptlast.rules import Loose
from models import NO_LISTS, any_forms, any_rows, model_of, small_forms
from support import Case, EqualToAll, Odd
from test_clashes import LARGE
from test_forms import BILL, FIELDS, NO_NAMES

FREE = Form(["b", "a"], {})


def no_generator(form, row):
    return list(kept_along(form, row))


class TestBehindRows(Case):
    def test_the_bill(self):
        row = ["net", "gross"]
        self.assert_same(order_behind(BILL, row), ["gross", "net", "rate", "tax"])
        self.assert_same([kept(BILL, row), worked_out(BILL, row)], [("net", "gross"), ("rate", "tax")])
        self.assert_same(plan_behind(BILL, row), {"share": "rate", "sum": "tax"})
        self.assert_same(list(kept_along(BILL, [*row, "rate"])), [("rate", "net"), ("rate", "net"), ("net", "gross"), ("rate", "net")])
        self.assert_same([thrown_out(BILL, row, "rate"), comes_in(BILL, row, "rate")], [("gross",), ("rate",)])

    def test_by_names(self):
        row = ("net", "gross")
        self.assert_same(order_behind(row=row, form=BILL), ["gross", "net", "rate", "tax"])
        self.assert_same([kept(row=row, form=BILL), worked_out(row=row, form=BILL)], [("net", "gross"), ("rate", "tax")])
        self.assert_same(plan_behind(row=row, form=BILL), {"share": "rate", "sum": "tax"})
        self.assert_same(list(kept_along(row=row, form=BILL)), [("rate", "net"), ("rate", "net"), ("net", "gross")])
        self.assert_same([thrown_out(field="rate", row=row, form=BILL), comes_in(field="rate", row=row, form=BILL)],
                         [("gross",), ("rate",)])
        paper = row_paper(row=row, form=BILL)
        self.assert_same(is_row_paper(value=paper, row=row, form=BILL), True)

    def test_the_empty_row(self):
        for row in [[], ()]:
            self.assert_same([order_behind(BILL, row), kept(BILL, row), worked_out(BILL, row), no_generator(BILL, row)],
                             [FIELDS, ("rate", "net"), ("tax", "gross"), [("rate", "net")]])
            self.assert_same(plan_behind(BILL, row), {"share": "tax", "sum": "gross"})
            self.assert_same([order_behind(FREE, row), kept(FREE, row), worked_out(FREE, row), plan_behind(FREE, row)],
                             [["b", "a"], ("b", "a"), (), {}])

    def test_fields_that_are_edited_several_times(self):
        self.assert_same(order_behind(BILL, ["tax", "net", "tax", "gross", "net", "net"]), ["net", "gross", "tax", "rate"])
        self.assert_same(order_behind(BILL, ["gross", "tax"] * 150), ["tax", "gross", "rate", "net"])
        self.assert_same(kept(BILL, ["gross", "tax"] * 150), ("tax", "gross"))
        self.assert_same([len(no_generator(BILL, ["gross", "tax"] * 150)), no_generator(BILL, ["gross", "tax"] * 150)[-1]],
                         [301, ("tax", "gross")])

    def assert_like_the_words(self, form, rows):
        model = model_of(form)
        for row in rows:
            keeps = model.kept(row)
            self.assert_same(order_behind(form, row), model.order(row))
            self.assert_same(kept(form, row), keeps)
            self.assert_same(worked_out(form, row), model.lot(set(form.fields) - set(keeps)))
            self.assertIn(keeps, model.full)
            self.assert_same(plan_behind(form, row), next(
                plan for plan in model.plans if set(plan.values()) == set(form.fields) - set(keeps)))
            self.assert_same(no_generator(form, row), [model.kept(row[:many]) for many in range(len(row) + 1)])
            for field in form.fields:
                then = model.kept([*row, field])
                out, into = thrown_out(form, row, field), comes_in(form, row, field)
                self.assert_same(out, model.lot(set(keeps) - set(then)))
                self.assert_same(into, model.lot(set(then) - set(keeps)))
                self.assertEqual(len(out), len(into))
                if field in keeps or not model.can_stay([field]):
                    self.assert_same([out, into], [(), ()])
                else:
                    self.assertIn(field, into)

    def test_all_rows_of_small_forms(self):
        for form in [*small_forms(), *any_forms(60, 41, 4, 3)]:
            self.assert_like_the_words(form, model_of(form).rows())

    def test_rows_that_edit_fields_several_times(self):
        chance = random.Random(42)
        for form in any_forms(150, 42):
            self.assert_like_the_words(form, any_rows(model_of(form), chance, 5))

    def test_large_forms(self):
        chance = random.Random(43)
        for form in LARGE:
            self.assert_like_the_words(form, any_rows(model_of(form), chance, 20))

    def test_a_plan_whatever_the_sequence_of_its_search(self):
        for form in any_forms(60, 44):
            for row in list(model_of(form).rows(2)):
                self.assert_same(plan_behind(form, row), plan_of(form, kept(form, row)))
            behind = {kept(form, lot) for lot in full_lots(form)}
            self.assertEqual(behind, set(full_lots(form)))

    def test_two_generators_by_turns(self):
        one, other = kept_along(BILL, ["net", "gross"]), kept_along(BILL, ["rate"])
        self.assertIs(iter(one), one)
        self.assert_same([next(one), next(other), next(one), next(one), next(other), next(one, None), next(other, None)],
                         [("rate", "net"), ("rate", "net"), ("rate", "net"), ("net", "gross"), ("rate", "net"), None, None])


class TestErrors(Case):
    def each_query(self):
        yield from [order_behind, kept, worked_out, plan_behind, no_generator, row_paper]
        yield lambda form, row: next(kept_along(form, row))
        for value in [None, "net"]:
            yield lambda form, row: thrown_out(form, row, value)
            yield lambda form, row: comes_in(form, row, value)
            yield lambda form, row: is_row_paper(form, row, value)

    def test_rows_that_are_no_lists(self):
        for query in self.each_query():
            for value in [*NO_LISTS, "net", Odd(), EqualToAll(), {"net": 1}]:
                self.assert_raises(InvalidRow, [None], query, BILL, value)

    def test_rows_with_a_wrong_element(self):
        for query in self.each_query():
            for value in [*NO_NAMES, "sum", "nett", ("net",)]:
                self.assert_raises(InvalidRow, [0], query, BILL, [value])
                self.assert_raises(InvalidRow, [3], query, BILL, ("net", "net", "tax", value, "x"))

    def test_unknown_fields(self):
        for query in [thrown_out, comes_in]:
            for value in [*NO_NAMES, "sum", "nett", ("net",), ["net"]]:
                self.assert_raises(UnknownField, [value], query, BILL, ["net", "gross"], value)

    def test_the_row_stays(self):
        row = ["net", "gross", "net"]
        for query in self.each_query():
            try:
                query(BILL, row)
            except UnknownField:
                continue
        thrown_out(BILL, row, "rate")
        self.assert_same(row, ["net", "gross", "net"])

    def test_what_is_returned_may_be_changed(self):
        row = ["net", "gross"]
        for query in [order_behind, plan_behind, lambda *both: row_paper(*both)[0], lambda *both: row_paper(*both)[1]]:
            found, again = query(BILL, row), query(BILL, row)
            self.assertIsNot(found, again)
            self.assert_same(found, again)
            found.clear()
            self.assert_same(query(BILL, row), again)
        self.assert_same(row, ["net", "gross"])


def is_paper(form, row, value):
    """By the words of the document, for values of the right kinds."""
    reasons, plan = value
    order = model_of(form).order(row)
    stay = [field for field, reason in zip(order, reasons) if reason is None]
    for at, (field, reason) in enumerate(zip(order, reasons)):
        ahead = [other for other, one in zip(order[:at], reasons) if one is None]
        if reason is not None and not is_bar_paper(form, [field, *ahead], reason):
            return False
    return len(reasons) == len(order) and is_plan_paper(form, stay, plan)


class TestRowPapers(Case):
    def test_the_bill(self):
        reasons, plan = row_paper(BILL, ["net", "gross"])
        self.assert_same(reasons, [None, None, ("share", "sum"), ("sum",)])
        self.assert_same(plan, [("sum", "tax"), ("share", "rate")])
        self.assert_same(is_row_paper(BILL, ["net", "gross"], (reasons, plan)), True)
        self.assert_same(is_row_paper(BILL, ["net", "gross"], (tuple(reasons), tuple(plan))), True)

    def test_without_rules(self):
        self.assert_same(row_paper(FREE, ["a"]), ([None, None], []))
        self.assert_same([is_row_paper(FREE, ["a"], ([None, None], [])), is_row_paper(FREE, [], ((None, None), ()))], [True, True])
        for value in [([None], []), ([None, None, None], []), ([None, ()], []), ([None, None], None), ([], [])]:
            self.assert_same(is_row_paper(FREE, ["a"], value), False)

    def assert_paper(self, form, row):
        value = row_paper(form, row)
        self.assert_same([type(value), len(value), type(value[0]), type(value[1])], [tuple, 2, list, list])
        self.assert_same([is_paper(form, row, value), is_row_paper(form, row, value)], [True, True])
        order = model_of(form).order(row)
        stay = [field for field, reason in zip(order, value[0]) if reason is None]
        self.assert_same(model_of(form).lot(stay), model_of(form).kept(row))
        self.assert_same(row_paper(form, row), value)

    def test_papers_of_all_rows(self):
        chance = random.Random(45)
        for form in [*small_forms(), *any_forms(60, 45, 4, 3)]:
            for row in model_of(form).rows():
                self.assert_paper(form, row)
        for form in [*any_forms(150, 46), *LARGE]:
            for row in any_rows(model_of(form), chance, 5):
                self.assert_paper(form, row)

    def test_all_values_of_the_right_kinds(self):
        many = right = 0
        for form in [*small_forms()][::5]:
            model = model_of(form)
            reasons = [None, *model.sets()]
            plans = [row_paper(form, row)[1] for row in model.rows()]
            for row in list(model.rows())[::3]:
                for value in product(product(reasons, repeat=len(form.fields)), plans[:3]):
                    many += 1
                    right += is_paper(form, row, value)
                    self.assert_same(is_row_paper(form, row, value), is_paper(form, row, value))
                    # So these are the kept fields, whatever paper it is.
                    if is_paper(form, row, value):
                        stay = [field for field, reason in zip(model.order(row), value[0]) if reason is None]
                        self.assert_same(model.lot(stay), model.kept(row))
        self.assertGreater(many, 1000)
        self.assertGreater(right, 100)

    def test_changed_papers(self):
        row = ["net", "gross"]
        reasons, plan = row_paper(BILL, row)
        wrong_reasons = [
            reasons[:3], [*reasons, None], [], None, "", {}, {0: None}, reasons[::-1], [None, None, None, ("sum",)],
            [None, None, ("share", "sum"), None], [None, None, None, None], [("sum",), None, ("share", "sum"), ("sum",)],
            [None, None, ("sum", "share"), ("sum",)], [None, None, ["share", "sum"], ("sum",)],
            [None, None, ("share",), ("sum",)], [None, None, (), ("sum",)], [None, None, False, ("sum",)],
            [None, None, 0, ("sum",)], [None, None, "", ("sum",)], [None, None, ("share", "sum"), ("share",)],
            [None, None, ("share", "sum"), "sum"], [None, None, ("share", "sum"), Odd()],
            [None, None, ("share", "sum"), EqualToAll()], [None, None, ("share", "sum"), (EqualToAll(),)], [Odd()] * 4,
            [EqualToAll()] * 4, Odd(), EqualToAll(), 4, True, b"abcd", "abcd", {None: None, 1: None, 2: None, 3: None}]
        for value in wrong_reasons:
            self.assert_same(is_row_paper(BILL, row, (value, plan)), False)
        for value in [plan[::-1], plan[:1], [], None, {}, dict(plan), [("sum", "tax"), ["share", "rate"]], [*plan, plan[0]],
                      [("sum", "net"), ("share", "rate")], Odd(), EqualToAll(), [Odd(), Odd()], [EqualToAll()] * 2, 0, "ab"]:
            self.assert_same(is_row_paper(BILL, row, (reasons, value)), False)
        for value in [[reasons, plan], (reasons,), (reasons, plan, plan), (plan, reasons), (), [], None, True, 0, 1, "", "ab", b"ab",
                      {0: reasons, 1: plan}, {"a", "b"}, Odd(), EqualToAll(), (None, None), (Odd(), Odd())]:
            self.assert_same(is_row_paper(BILL, row, value), False)
        for other in [["gross", "net"], ["gross"], [], ["net", "gross", "rate"], ["gross", "net", "gross"]]:
            found = is_row_paper(BILL, other, (reasons, plan))
            self.assert_same(found, is_paper(BILL, other, (reasons, plan)))

    def test_other_right_papers(self):
        form = Form(["a", "b", "c"], {"p": Loose(["a", "b"], ways=["a"]), "q": Loose(["b", "c"], ways=["b"])})
        plan = [("q", "b"), ("p", "a")]
        self.assertIn(row_paper(form, []), [([first, ("q",), None], plan) for first in [("p",), ("p", "q")]])
        # a alone is barred by p and by both rules.
        for first in [("p",), ("p", "q")]:
            self.assert_same(is_row_paper(form, [], ([first, ("q",), None], plan)), True)
        self.assert_same(is_row_paper(form, [], ([("q",), ("q",), None], plan)), False)
        self.assert_same(is_row_paper(form, [], ([("p",), ("p", "q"), None], plan)), False)

    def test_the_paper_stays(self):
        reasons, plan = row_paper(BILL, ["net"])
        before = (list(reasons), list(plan))
        is_row_paper(BILL, ["net"], (reasons, plan))
        self.assert_same((reasons, plan), before)
