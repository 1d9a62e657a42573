"""What the document promises over the whole program, for a call of each function and method that returns something."""

import copy
import inspect
import random
from itertools import permutations

from keptlast import clashes, exchange, gains, judge, known, pairs, peels, rows, texts, webs
from keptlast.amounts import Amount
from keptlast.desk import Desk
from keptlast.drafts import Draft
from keptlast.errors import Never, Refused
from keptlast.forms import Form, private, rule_sets
from keptlast.rules import Loose, Rule, Total
from keptlast.sheets import Sheet
from models import any_forms, any_pairs, any_rows, model_of
from papers import any_number, beginnings, told as told_by
from support import Case
from test_forms import ADDING, BILL, FIELDS, SHARING
from test_texts import BILL_TEXT

OTHER = Form(FIELDS, {"sum": ADDING, "z": Loose(["rate", "tax"], ways=["tax"])})
ADD = Form(["net", "tax", "gross"], {"sum": ADDING})
FACTS = [("gross", "rate"), ("net", "tax")]
LOT = ["gross", "net"]
ROW = ["net", "gross", "net"]
NUMBERS = {"tax": 20, "net": Amount(100), "gross": 120}


def calls():
    """Tuples of a function or method and its arguments; all of these lists and dicts are new."""
    found = [
        (peels.can_stay, BILL, LOT), (peels.plan_paper, BILL, LOT), (peels.bar_paper, BILL, FIELDS), (peels.plan_of, BILL, LOT),
        (peels.plan_row, BILL, LOT), (peels.full_lots, BILL), (peels.count_full, BILL), (peels.is_bar_paper, BILL, FIELDS, ("sum",)),
        (peels.is_plan_paper, BILL, LOT, [("sum", "tax"), ("share", "rate")]), (clashes.clashes, BILL),
        (clashes.is_clash, BILL, ["gross", "rate"]), (clashes.clash_rules, BILL, ["gross", "rate"]), (clashes.never, OTHER),
        (clashes.first_clash, BILL, "tax"), (clashes.lots_paper, BILL, BILL), (clashes.lot_apart, BILL, OTHER),
        (clashes.is_lots_paper, BILL, BILL, {("sum",): ("sum",), ("share",): ("share",), ("share", "sum"): ("share", "sum")}),
        (rows.order_behind, BILL, ROW), (rows.kept, BILL, ROW), (rows.worked_out, BILL, ROW), (rows.plan_behind, BILL, ROW),
        (rows.thrown_out, BILL, ROW, "rate"), (rows.comes_in, BILL, ROW, "rate"), (rows.kept_along, BILL, ROW),
        (rows.row_paper, BILL, ROW), (rows.is_row_paper, BILL, ROW, ([None, None, ("share", "sum"), ("sum",)], [("sum", "tax"), ("share", "rate")])),
        (pairs.are_alike, BILL, OTHER), (pairs.parting, BILL, OTHER), (pairs.alike_paper, BILL, BILL), (pairs.loss, BILL, OTHER),
        (pairs.is_alike_paper, BILL, BILL, ({("sum",): ("sum",)}, {("sum",): ("sum",)})), (pairs.are_unions, BILL, OTHER),
        (exchange.sure_last, BILL), (exchange.last_paper, BILL, 1), (exchange.is_one_for_one, BILL), (exchange.two_out, BILL),
        (exchange.is_last_paper, BILL, 0, {("sum",): ("net",), ("share",): ("net",), ("share", "sum"): ("rate",)}),
        (exchange.most_out, BILL), (exchange.rivals, BILL, "rate"), (exchange.fewest_ways, OTHER, 1), (webs.is_web, BILL),
        (webs.ends, BILL), (webs.count_trees, BILL), (known.possible, BILL, FACTS), (known.sure, BILL, FACTS), (known.lost, BILL, FACTS),
        (known.order_for, BILL, FACTS, LOT), (known.stands_paper, BILL, FACTS), (known.is_stands_paper, BILL, FACTS, [((), ())]),
        (gains.hangs_on, BILL, ROW, "tax"), (gains.gains, ADD, ["gross"]), (texts.form_text, BILL), (texts.read_form, BILL_TEXT),
        (judge.is_claim, ("sure", BILL, FACTS, "net")), (judge.certificate_of, ("kept", BILL, ROW, LOT)),
        (judge.certificate_of, ("sure", BILL, FACTS, "net")), (judge.certificate_of, ("alike", BILL, BILL)),
        (judge.is_certificate, ("kept", BILL, ROW, LOT), ([None] * 4, [])), (private, BILL, ["sum", "share"]), (rule_sets, BILL),
        (Form, FIELDS, {"sum": ADDING, "share": SHARING}), (BILL, ROW), (BILL.names,), (BILL.rules,), (BILL.rules_of, "tax"),
        (ADDING.is_true, NUMBERS), (ADDING.worked_out, "net", NUMBERS), (ADDING.text,), (Total, {"b": 1, "a": 2}, 3), (Rule.read, "loose a"),
        (Loose, ["b", "a"]), (Amount, 6, -4), (Amount(7, 2).over, 7), (Amount(7, 2).rounded, 2), (Amount.of, 3), (Amount.read, "1/3"),
        (Draft(BILL).names,), (Draft(BILL).made,), (Draft(BILL).copy,), (Sheet, BILL, {"rate": 1, "net": 2}), (sheet().numbers,), (sheet().table,),
        (sheet().copy,), (sheet().tried, Sheet.numbers), (desk().sheet,), (desk().do, "plan"), (desk().log,)]
    return [(call[0], copied(list(call[1:]))) for call in found]


def sheet():
    made = Sheet(BILL, {"rate": Amount(1, 5), "net": 100})
    made["gross"] = 240
    return made


def desk():
    made = Desk(sheet())
    made.do("set net = 5")
    return made


def copied(value):
    """The value with new lists and dicts."""
    if isinstance(value, (list, tuple)):
        return type(value)(copied(part) for part in value)
    return {copied(key): copied(value[key]) for key in value} if isinstance(value, dict) else value


def told(value):
    """What an answer says: objects by all that they tell."""
    if inspect.isgenerator(value):
        return list(value)
    if isinstance(value, Form):
        return [value.fields, value.rules()]
    if isinstance(value, Draft):
        return [value.sequence, value.names()]
    if isinstance(value, Sheet):
        return [value.order, value.kept, value.numbers(), value.changes]
    return value


def containers(value):
    """All lists and dicts in an answer."""
    found = [value] if isinstance(value, (list, dict)) else []
    parts = value if isinstance(value, (list, tuple)) else [*value, *value.values()] if isinstance(value, dict) else []
    return found + [one for part in parts for one in containers(part)]


def spoiled(value):
    """Changes all lists and dicts in an answer."""
    for one in containers(value):
        one.clear()


class TestWholeProgram(Case):
    def test_by_position_and_by_names(self):
        for action, args in calls():
            with self.subTest(action=action):
                names = list(inspect.signature(action).parameters)[:len(args)]
                named = dict(reversed(list(zip(names, args))))
                found = told(action(*args))
                self.assert_same(told(action(**named)), found)
                self.assert_same(told(action(*args[:1], **{name: named[name] for name in names[1:]})), found)

    def test_lists_may_be_tuples(self):
        for action, args in calls():
            lists = [at for at, value in enumerate(args) if isinstance(value, list)]
            for at in lists:
                with self.subTest(action=action):
                    self.assert_same(told(action(*args[:at], tuple(args[at]), *args[at + 1:])), told(action(*args)))

    def test_arguments_stay(self):
        for action, args in calls():
            with self.subTest(action=action):
                before = copied([told(value) for value in args])
                told(action(*args))
                self.assert_same([told(value) for value in args], before)

    def test_answers_are_new_and_repeated_queries_are_equal(self):
        earlier = [(action, args, told(action(*args))) for action, args in calls()]
        for _ in range(2):
            # Behind all other calls, each of them gives an equal answer, whose lists and dicts are new.
            for action, args, found in earlier:
                with self.subTest(action=action):
                    again = told(action(*args))
                    self.assert_same(again, found)
                    all_of_them = containers(again) + containers(found) + containers(args)
                    self.assertEqual(len({id(one) for one in all_of_them}), len(all_of_them))
        held = [(action, args, copied(found)) for action, args, found in earlier]
        for _, _, found in earlier:
            spoiled(found)
        for action, args, found in held:
            with self.subTest(action=action):
                self.assert_same(told(action(*args)), found)

    def test_keys_are_sorted(self):
        many = 0
        for action, args in calls():
            for one in containers(told(action(*args))):
                if isinstance(one, dict):
                    many += 1
                    self.assert_same(list(one), sorted(one))
        self.assertGreater(many, 12)

    def test_arguments_may_be_changed_behind_the_call(self):
        for action, args in calls():
            held = copied(args)
            found = action(*args)
            if not inspect.isgenerator(found):
                before = copy.deepcopy(told(found))
                spoiled(args)
                with self.subTest(action=action):
                    self.assert_same(told(found), before)
                    self.assert_same(told(action(*held)), before)


class TestGuarantees(Case):
    def test_can_or_cannot(self):
        for form in any_forms(60, 151, 6, 4):
            for lot in model_of(form).lots():
                plan, bar = peels.plan_paper(form, lot), peels.bar_paper(form, lot)
                self.assert_same([plan is None, bar is None], [not peels.can_stay(form, lot), peels.can_stay(form, lot)])
                self.assert_same([peels.is_plan_paper(form, lot, plan), peels.is_bar_paper(form, lot, bar)], [bar is None, plan is None])

    def test_one_plan(self):
        chance = random.Random(152)
        for form in any_forms(80, 153, 6, 4):
            model = model_of(form)
            for row in any_rows(model, chance, 4):
                fitting = [plan for plan in model.plans if not set(plan.values()) & set(rows.kept(form, row))]
                self.assert_same(fitting, [rows.plan_behind(form, row)])

    def test_alike(self):
        found = set()
        for one, other in any_pairs(150, 154, 4, 3):
            alike = all(one(row) == other(row) for row in permutations(one.fields))
            self.assert_same([pairs.are_alike(one, other), list(clashes.clashes(one)) == list(clashes.clashes(other))], [alike] * 2)
            found.add(alike)
        self.assertEqual(found, {True, False})

    def test_last(self):
        for form in any_forms(80, 155, 5, 4):
            many = exchange.sure_last(form)
            self.assertTrue(all(set(row) <= set(form(row)) for row in permutations(form.fields, many)))
            if many < len(form.fields):
                self.assertFalse(all(set(row) <= set(form(row)) for row in permutations(form.fields, many + 1)))

    def test_true(self):
        chance = random.Random(156)
        for form, numbers in beginnings(60, 157):
            made = Sheet(form, numbers)
            for _ in range(8):
                before = made.numbers()
                field, number = chance.choice(form.fields), any_number(chance)
                try:
                    made.edit(field, number)
                except (Never, Refused):
                    self.assert_same(made.numbers(), before)
                    continue
                self.assertTrue(all(form[name].is_true(made.numbers()) for name in form.names()))
                for kept in made.kept:
                    self.assert_same(made[kept], Amount.of(number) if kept == field else before[kept])
            twin = texts.read_form(texts.form_text(made.form))
            made.form = twin
            self.assert_same(told_by(made)[:2], [form.fields, form.rules()])

    def test_checked(self):
        chance = random.Random(158)
        for one, other in any_pairs(60, 159, 5, 3):
            row = chance.choices(one.fields, k=4)
            self.assert_same(rows.is_row_paper(one, row, rows.row_paper(one, row)), True)
            for kind in judge.KINDS:
                parts = {"can stay": [row[:1]], "cannot stay": [row[:1]], "kept": [row, one(row)], "two out": [], "last": [1], "not last": [1],
                         "sure": [[], row[0]], "not sure": [[], row[0]]}.get(kind, [other])
                claim = (kind, one, *parts)
                found = judge.certificate_of(claim)
                self.assert_same(judge.is_certificate(claim, found), found is not None)
