"""Points [31], [32] and [33] and the interface section keptlast/peels.py."""

from itertools import permutations, product

from keptlast.errors import InvalidLot
from keptlast.forms import Form
from keptlast.peels import (bar_paper, can_stay, count_full, full_lots, is_bar_paper, is_plan_paper, plan_of, plan_paper,
                            plan_row)
from keptlast.rules import Loose
from models import NO_LISTS, any_forms, model_of, small_forms
from support import Case, EqualToAll, Odd
from test_forms import BILL, FIELDS, NO_NAMES, ten

CHAIN = Form(["a", "b", "c", "d"], {"p": Loose(["a", "b"]), "q": Loose(["b", "c"]), "r": Loose(["c", "d"], ways=["d"])})
FREE = Form(["b", "a"], {})


def plan_papers(model, lot):
    """All plan papers of a lot, by the words of the document."""
    for plan in model.plans:
        if not set(plan.values()) & set(lot):
            for row in permutations(model.rules):
                if model.is_row(plan, row):
                    yield [(name, plan[name]) for name in row]


def bar_papers(model, lot):
    return [names for names in model.sets() if set(model.private(names)) <= set(lot)]


def all_steps_lists(model):
    """All lists of tuples (rule, field), one for each rule."""
    for fields in product(model.fields, repeat=len(model.rules)):
        for row in permutations(zip(model.rules, fields)):
            yield list(row)


class TestCanStay(Case):
    def test_the_bill(self):
        self.assert_same([can_stay(BILL, ["net", "gross"]), can_stay(BILL, ["gross", "rate"])], [True, False])
        self.assert_same([can_stay(BILL, []), can_stay(BILL, ()), can_stay(BILL, ("tax",))], [True, True, True])
        self.assert_same([can_stay(BILL, FIELDS), can_stay(lot=["gross"], form=BILL)], [False, True])

    def test_against_all_plans(self):
        for form in [*small_forms(), *any_forms(150, 21)]:
            model = model_of(form)
            for lot in model.lots():
                self.assert_same(can_stay(form, lot), model.can_stay(lot))
                self.assert_same(can_stay(form, list(lot)[::-1]), model.can_stay(lot))


class TestPapers(Case):
    def test_the_bill(self):
        self.assert_same(plan_paper(BILL, ["net", "gross"]), [("sum", "tax"), ("share", "rate")])
        self.assert_same(bar_paper(BILL, ["net", "gross"]), None)
        self.assert_same(plan_paper(BILL, ["gross", "rate"]), None)
        self.assert_same(bar_paper(BILL, ["gross", "rate"]), ("share", "sum"))
        self.assert_same([plan_paper(lot=["gross", "rate"], form=BILL), bar_paper(lot=["gross"], form=BILL)], [None, None])

    def test_just_one_of_them_for_each_lot(self):
        for form in [*small_forms(), *any_forms(150, 22)]:
            model = model_of(form)
            for lot in model.lots():
                plan, bar = plan_paper(form, lot), bar_paper(form, list(lot)[::-1])
                if model.can_stay(lot):
                    self.assertIn(plan, list(plan_papers(model, lot)))
                    self.assertIs(type(plan), list)
                    self.assertIs(bar, None)
                    self.assert_same(is_plan_paper(form, lot, plan), True)
                else:
                    self.assertIs(plan, None)
                    self.assertIs(type(bar), tuple)
                    self.assertIn(bar, bar_papers(model, lot))
                    self.assert_same(is_bar_paper(form, lot, bar), True)
                self.assert_same([is_bar_paper(form, lot, plan), is_plan_paper(form, lot, bar)], [False, False])

    def test_all_bar_papers(self):
        for form in [*small_forms(), *any_forms(80, 23, 5, 3)]:
            model = model_of(form)
            for lot in model.lots():
                right = bar_papers(model, lot)
                for names in model.sets():
                    self.assert_same(is_bar_paper(form, lot, names), names in right)

    def test_all_plan_papers(self):
        for form in [*small_forms(), *any_forms(60, 24, 4, 3)]:
            model = model_of(form)
            every = list(all_steps_lists(model))[::7 if len(form) == 3 else 1]
            for lot in model.lots():
                right = list(plan_papers(model, lot))
                for steps in every:
                    self.assert_same(is_plan_paper(form, lot, steps), steps in right)
                for steps in right:
                    self.assert_same(is_plan_paper(form, lot, steps), True)

    def test_without_rules(self):
        for lot in [[], ["a"], ["a", "b"]]:
            self.assert_same([plan_paper(FREE, lot), bar_paper(FREE, lot), can_stay(FREE, lot)], [[], None, True])
            self.assert_same([is_plan_paper(FREE, lot, []), is_plan_paper(FREE, lot, ()), is_plan_paper(FREE, lot, {}),
                              is_plan_paper(FREE, lot, None), is_plan_paper(FREE, lot, [("p", "a")])],
                             [True, True, False, False, False])
            self.assert_same([is_bar_paper(FREE, lot, ()), is_bar_paper(FREE, lot, [])], [False, False])

    def test_changed_plan_papers(self):
        right = [("sum", "tax"), ("share", "rate")]
        for value in [right, tuple(right)]:
            self.assert_same(is_plan_paper(BILL, ["net", "gross"], value), True)
        self.assert_same(is_plan_paper(value=right, lot=["gross"], form=BILL), True)
        wrong = [
            [("share", "rate"), ("sum", "tax")], [("sum", "tax")], [("share", "rate")], [], [*right, ("sum", "tax")],
            [("sum", "tax"), ("sum", "tax")], [("sum", "tax"), ("share", "tax")], [("sum", "net"), ("share", "rate")],
            [("sum", "tax"), ("share", "gross")], [("sum", "rate"), ("share", "tax")], [("sum", "tax"), ("shares", "rate")],
            [("sum", "tax"), ("share", "rat")], [("sum", "tax"), ("share", "rate", "rate")], [("sum", "tax"), ("share",)],
            [["sum", "tax"], ("share", "rate")], [("sum", "tax"), ["share", "rate"]], [("tax", "sum"), ("rate", "share")],
            [("sum", "tax"), None], [("sum", "tax"), "share"], [("sum", "tax"), ("share", None)],
            [("sum", "tax"), (None, "rate")], [("sum", "tax"), (True, 1)], {"sum": "tax", "share": "rate"},
            [("sum", "tax"), ("share", ["rate"])], [("sum", "tax"), (["share"], "rate")], [("sum", "tax"), ("share", Odd())],
            [("sum", "tax"), ("share", EqualToAll())], [("sum", "tax"), (EqualToAll(), "rate")], [Odd(), ("share", "rate")],
            [("sum", "tax"), EqualToAll()], EqualToAll(), Odd(), "sum tax share rate", {("sum", "tax"), ("share", "rate")},
            [("sum", "tax"), ("share", {})], [("sum", "tax"), ({}, {})], [(("sum", "tax"),), ("share", "rate")], None, True, 0, 1,
            [("sum", "tax"), "sr"], ["st", "sr"], [[]], [()], {}, b"", b"ab", (("sum", "tax"), ["share", "rate"])]
        for value in wrong:
            self.assert_same(is_plan_paper(BILL, ["net", "gross"], value), False)
        for value in [EqualToAll(), Odd(), None, 1, True, b"rate", ["rate"], ("rate",), "x"]:
            # The empty lot contains no value.
            self.assert_same(is_plan_paper(BILL, [], [("sum", "tax"), ("share", value)]), False)
            self.assert_same(is_plan_paper(BILL, [], [("sum", value), ("share", "rate")]), False)
            self.assert_same(is_plan_paper(BILL, [], [("sum", "tax"), (value, "rate")]), False)
        self.assert_same(is_plan_paper(BILL, ["net", "rate"], right), False)
        self.assert_same(is_plan_paper(BILL, ["net", "tax"], right), False)

    def test_ways_only(self):
        self.assert_same(is_plan_paper(CHAIN, ["a"], [("p", "b"), ("q", "c"), ("r", "d")]), True)
        self.assert_same(is_plan_paper(CHAIN, ["d"], [("r", "c"), ("q", "b"), ("p", "a")]), False)

    def test_changed_bar_papers(self):
        lot = ["gross", "rate"]
        self.assert_same([is_bar_paper(BILL, lot, ("share", "sum")), is_bar_paper(value=("share", "sum"), lot=lot, form=BILL)],
                         [True, True])
        for value in [("sum", "share"), ["share", "sum"], ("share",), ("sum",), (), [], ("share", "share", "sum"),
                      ("share", "sum", "sum"), ("share", "sums"), ("share", "sum", "tax"), ("share", None), ("share", ["sum"]),
                      (("share", "sum"),), ("share", EqualToAll()), (EqualToAll(), EqualToAll()), ("share", Odd()), Odd(),
                      EqualToAll(), None, True, 0, 1, "share sum", {"share", "sum"}, {"share": "sum"}, (True, 1), b"ab",
                      ("share", b"sum"), ({},), ([],), ((),)]:
            self.assert_same(is_bar_paper(BILL, lot, value), False)
        self.assert_same(is_bar_paper(BILL, ["gross"], ("share", "sum")), False)
        self.assert_same(is_bar_paper(BILL, ["gross", "net", "tax"], ("sum",)), True)
        self.assert_same(is_bar_paper(BILL, ["gross", "net", "tax"], ("share", "sum")), False)


class TestFullLots(Case):
    def test_the_bill(self):
        expected = [("rate", "net"), ("rate", "tax"), ("net", "tax"), ("net", "gross"), ("tax", "gross")]
        self.assert_same([list(full_lots(BILL)), count_full(BILL)], [expected, 5])
        self.assert_same([list(full_lots(form=BILL)), count_full(form=BILL)], [expected, 5])

    def test_without_rules(self):
        self.assert_same([list(full_lots(FREE)), count_full(FREE), plan_of(FREE, ["a", "b"]), plan_row(FREE, ["a", "b"])],
                         [[("b", "a")], 1, {}, []])
        self.assert_same([plan_of(FREE, ["a"]), plan_row(FREE, ["a"])], [None, None])

    def test_no_field_is_kept(self):
        form = Form(["a", "b"], {"q": Loose(["b", "a"]), "p": Loose(["a"])})
        self.assert_same([list(full_lots(form)), plan_of(form, []), plan_row(form, [])],
                         [[()], {"p": "a", "q": "b"}, [("p", "a"), ("q", "b")]])

    def test_against_all_plans(self):
        for form in [*small_forms(), *any_forms(150, 25)]:
            model = model_of(form)
            self.assert_same(list(full_lots(form)), model.full)
            self.assert_same(count_full(form), len(model.full))

    def test_two_generators_by_turns(self):
        one, other = full_lots(BILL), full_lots(BILL)
        self.assert_same([next(one), next(one), next(other), next(one), next(other)],
                         [("rate", "net"), ("rate", "tax"), ("rate", "net"), ("net", "tax"), ("rate", "tax")])
        self.assertIs(iter(one), one)

    def expected_row(self, model, plan):
        row, known = [], set(model.fields) - set(plan.values())
        while len(row) < len(plan):
            for name in sorted(plan):
                if plan[name] not in known and set(model.rules[name][0]) - {plan[name]} <= known:
                    row.append((name, plan[name]))
                    known.add(plan[name])
                    break
        return row

    def test_plans_and_rows(self):
        for form in [*small_forms(), *any_forms(150, 26)]:
            model = model_of(form)
            plans = {model.lot(set(model.fields) - set(plan.values())): plan for plan in model.plans}
            self.assertEqual(len(plans), len(model.plans))
            for lot in model.lots():
                if lot in plans:
                    self.assert_same(plan_of(form, list(lot)[::-1]), plans[lot])
                    self.assert_same(plan_row(form, lot), self.expected_row(model, plans[lot]))
                    self.assert_same(is_plan_paper(form, lot, plan_row(form, lot)), True)
                else:
                    self.assert_same([plan_of(form, lot), plan_row(form, list(lot)[::-1])], [None, None])

    def test_rows_take_the_first_rule_that_is_ready(self):
        form = Form(["a", "b", "c", "d", "e"], {"a": Loose(["d", "e"]), "b": Loose(["a", "b"]), "c": Loose(["a", "c"]),
                                                "d": Loose(["c", "d"])})
        self.assert_same(plan_row(form, ["a"]), [("b", "b"), ("c", "c"), ("d", "d"), ("a", "e")])
        self.assert_same(plan_row(form, ["e"]), [("a", "d"), ("d", "c"), ("c", "a"), ("b", "b")])
        # Once the last one is ready, the first ones are looked at anew.
        self.assert_same(plan_row(form=form, lot=["d"]), [("a", "e"), ("d", "c"), ("c", "a"), ("b", "b")])
        self.assert_same(list(plan_of(form, ["d"])), ["a", "b", "c", "d"])


class TestLots(Case):
    def each_query(self):
        for value in [None, [], ()]:
            yield lambda form, lot: is_plan_paper(form, lot, value)
            yield lambda form, lot: is_bar_paper(form, lot, value)
        yield from [can_stay, plan_paper, bar_paper, plan_of, plan_row]

    def test_lots_that_are_no_lists(self):
        for query in self.each_query():
            for value in [*NO_LISTS, Odd(), EqualToAll(), "net", {"net"}, {"net": 1}]:
                self.assert_raises(InvalidLot, [None], query, BILL, value)

    def test_lots_with_a_wrong_element(self):
        for query in self.each_query():
            for value in [*NO_NAMES, "sum", "nett", ("net",)]:
                self.assert_raises(InvalidLot, [0], query, BILL, [value])
                self.assert_raises(InvalidLot, [1], query, BILL, ("net", value, "net"))
            self.assert_raises(InvalidLot, [2], query, BILL, ["net", "tax", "net", "x"])
            self.assert_raises(InvalidLot, [4], query, BILL, [*FIELDS, "rate"])

    def test_the_lot_and_the_paper_stay(self):
        lot, paper = ["gross", "net"], [("sum", "tax"), ("share", "rate")]
        for query in self.each_query():
            query(BILL, lot)
        is_plan_paper(BILL, lot, paper)
        self.assert_same([lot, paper], [["gross", "net"], [("sum", "tax"), ("share", "rate")]])

    def test_what_is_returned_may_be_changed(self):
        lot = ["net", "gross"]
        for query in [plan_paper, plan_of, plan_row]:
            found, again = query(BILL, lot), query(BILL, lot)
            self.assertIsNot(found, again)
            self.assert_same(found, again)
            found.clear()
            self.assert_same(query(BILL, lot), again)

    def test_repeated_queries(self):
        for form in any_forms(40, 27):
            for lot in model_of(form).lots():
                for query in [can_stay, plan_paper, bar_paper, plan_of, plan_row]:
                    self.assert_same(query(form, lot), query(form, lot))


class TestLargeForms(Case):
    def test_a_ring_of_ten_fields(self):
        fields = ten()
        rules = {f"r{at}": Loose([fields[at], fields[at + 1], fields[at + 2], fields[9]]) for at in range(6)}
        form = Form(fields, rules)
        found = list(full_lots(form))
        self.assert_same([len(found), {len(lot) for lot in found} == {4}], [count_full(form), True])
        self.assertGreater(len(found), 10)
        self.assertEqual(found, sorted(found))
        for lot in found:
            row = plan_row(form, lot)
            self.assert_same(is_plan_paper(form, lot, row), True)
            self.assert_same(plan_of(form, lot), dict(sorted(row)))
            self.assert_same(form(lot), lot)

    def test_all_lots_of_a_large_form(self):
        form = Form(ten(), {"a": Loose(["f0", "f9"]), "b": Loose(["f1", "f8", "f0"]), "c": Loose(["f2", "f7", "f1"]),
                            "d": Loose(["f3", "f6"]), "e": Loose(["f4", "f5", "f3"]), "f": Loose(["f5", "f0", "f4"])})
        model = model_of(form)
        for lot in model.lots():
            self.assert_same(can_stay(form, lot), model.can_stay(lot))
        self.assert_same(list(full_lots(form)), model.full)
        self.assertGreater(count_full(form), 50)
