"""Points [61] and [62] and the interface section keptlast/exchange.py."""

import random
from itertools import chain, combinations, permutations, product

from keptlast.amounts import Amount
from keptlast.clashes import clashes
from keptlast.errors import Barred, InvalidCount, TooMany, UnknownField
from keptlast.exchange import (fewest_ways, is_last_paper, is_one_for_one, last_paper, most_out, rivals, sure_last, two_out)
from keptlast.forms import Form, private
from keptlast.rows import thrown_out
from keptlast.rules import Loose, Product, Total
from models import any_forms, any_rows, lots_of, model_of, small_forms, tangled_forms
from support import Case, EqualToAll, Odd
from test_clashes import LARGE
from test_forms import BILL, NO_NAMES, ten

FREE = Form(["b", "a"], {})
# An edit of f0 may throw out two fields.
TWO = Form(ten()[:5], {"p": Loose(["f1", "f3", "f4"]), "q": Loose(["f0", "f1", "f2"], ways=["f0", "f1"]),
                       "r": Loose(["f0", "f2", "f4"])})
THREE = Form(ten()[:6], {"p": Loose(["f0", "f2", "f4"], ways=["f0", "f4"]), "r": Loose(["f1", "f3", "f5"]),
                         "q": Loose(["f0", "f1", "f2", "f5"], ways=["f1", "f2"])})
NO_COUNTS = [None, True, False, -1, -10 ** 30, "", "1", b"1", [], (1,), {}, {1}, Amount(1), Odd(), EqualToAll()]


def outs_of(model):
    """For each field, all lots that an edit of it throws out, behind all rows."""
    found = {field: set() for field in model.fields}
    for row in permutations(model.fields):
        before = model.kept(row)
        for field in model.fields:
            found[field].add(model.lot(set(before) - set(model.kept([*row, field]))))
    return found


def stay_last(model, many):
    """Whether the last edited fields, so many of them, are kept behind all rows."""
    return all(set(row) <= set(model.kept(row)) for row in permutations(model.fields, many))


class TestSureLast(Case):
    def test_the_bill(self):
        self.assert_same([sure_last(BILL), sure_last(form=BILL)], [1, 1])
        self.assert_same([sure_last(FREE), sure_last(Form(["a"], {"p": Loose(["a"])}))], [2, 0])
        self.assert_same([sure_last(Form(ten(), {})), sure_last(Form(ten(), {"p": Loose(ten())}))], [10, 9])

    def test_against_all_rows(self):
        for form in [*small_forms(), *any_forms(120, 71, 5, 4)]:
            model = model_of(form)
            sure = sure_last(form)
            for many in range(len(form.fields) + 1):
                self.assert_same(stay_last(model, many), many <= sure)

    def test_large_forms(self):
        for form in LARGE:
            self.assert_same(sure_last(form), min(len(lot) for lot in model_of(form).clashes()) - 1)


class TestLastPapers(Case):
    def test_the_bill(self):
        paper = {("share",): ("rate", "net"), ("share", "sum"): ("rate", "gross"), ("sum",): ("net", "tax")}
        self.assert_same(is_last_paper(BILL, 1, paper), True)
        self.assert_same([last_paper(BILL, 2), last_paper(BILL, 3), last_paper(BILL, 4), last_paper(BILL, 10 ** 30)], [None] * 4)
        self.assert_same(is_last_paper(value=last_paper(many=1, form=BILL), many=1, form=BILL), True)

    def test_without_rules(self):
        for many in [0, 1, 2]:
            self.assert_same([last_paper(FREE, many), is_last_paper(FREE, many, {})], [{}, True])
        for many in [3, 4, 10 ** 30]:
            self.assert_same([last_paper(FREE, many), is_last_paper(FREE, many, {})], [None, False])
        for value in [[], (), None, set(), "", 0, {("p",): ("a",)}, {(): ()}]:
            self.assert_same(is_last_paper(FREE, 1, value), False)

    def test_a_paper_just_if_they_stay(self):
        for form in [*small_forms(), *any_forms(120, 72, 5, 4), *LARGE]:
            model = model_of(form)
            for many in range(len(form.fields) + 2):
                paper = last_paper(form, many)
                if many <= len(form.fields) and (stay_last(model, many) if len(form.fields) < 6 else many <= sure_last(form)):
                    self.assertIs(type(paper), dict)
                    self.assert_same(list(paper), sorted(model.sets()))
                    for names, lot in paper.items():
                        self.assert_same([type(lot), len(lot), model.lot(lot)], [tuple, many + 1, lot])
                        self.assertLessEqual(set(lot), set(model.private(names)))
                    self.assert_same(is_last_paper(form, many, paper), True)
                    for other in range(len(form.fields) + 2):
                        self.assert_same(is_last_paper(form, other, paper), other == many or not paper and other <= len(form.fields))
                else:
                    self.assertIs(paper, None)

    def test_all_lots_of_private_fields(self):
        right = 0
        for form in [*small_forms()][::7]:
            model = model_of(form)
            keys = model.sets()
            for many in range(len(form.fields) + 1):
                for lots in product(model.lots(), repeat=min(len(keys), 2)):
                    paper = dict(zip(keys, [*lots, lots[0] if lots else ()]))
                    expected = all(len(lot) == many + 1 and set(lot) <= set(private(form, key)) for key, lot in paper.items())
                    right += expected
                    self.assert_same(is_last_paper(form, many, paper), expected)
        self.assertGreater(right, 20)

    def test_changed_papers(self):
        right = last_paper(BILL, 1)
        self.assert_same(is_last_paper(BILL, 1, dict(reversed(list(right.items())))), True)
        self.assert_same([is_last_paper(BILL, 0, right), is_last_paper(BILL, 2, right)], [False, False])
        for key in right:
            without = {other: right[other] for other in right if other != key}
            self.assert_same(is_last_paper(BILL, 1, without), False)
            lot = right[key]
            for value in [None, True, 0, "", "ab", (), [], list(lot), lot[::-1], lot[:1], (lot[0], lot[0]), (lot[0],), (*lot, "tax"),
                          ("net", "gross") if key == ("share",) else ("rate", "net"), (lot[0], None), (None, lot[1]), (lot[0], 1),
                          (lot[0], "x"), (lot[0], [lot[1]]), (EqualToAll(), EqualToAll()), (lot[0], EqualToAll()), EqualToAll(),
                          Odd(), {lot[0], lot[1]}, {lot[0]: 0, lot[1]: 1}, ((lot[0], lot[1]),), (b"net", b"tax")]:
                self.assert_same(is_last_paper(BILL, 1, {**right, key: value}), False)
            for wrong in ["share", "", (), ("x",), ("sum", "share"), ("share", "share"), (1,), None, True, 0, b"sum", (key,),
                          ("share", None), ("share", "sum", "sum")]:
                self.assert_same(is_last_paper(BILL, 1, {**without, wrong: lot}), False)
                self.assert_same(is_last_paper(BILL, 1, {**right, wrong: lot}), False)
        for value in [None, True, 0, 1, "", "share", b"", [], (), list(right), list(right.items()), tuple(right.items()), {}, set(right),
                      Odd(), EqualToAll(), BILL]:
            self.assert_same(is_last_paper(BILL, 1, value), False)

    def test_wrong_counts(self):
        for value in NO_COUNTS:
            self.assert_raises(InvalidCount, [value], last_paper, BILL, value)
            self.assert_raises(InvalidCount, [value], is_last_paper, BILL, value, {})
            self.assert_raises(InvalidCount, [value], is_last_paper, BILL, value, None)

    def test_what_is_returned_may_be_changed(self):
        found, again = last_paper(BILL, 1), last_paper(BILL, 1)
        self.assertIsNot(found, again)
        self.assert_same(found, again)
        is_last_paper(BILL, 1, found)
        self.assert_same(found, again)
        found.clear()
        self.assert_same(last_paper(BILL, 1), again)


class TestOneForOne(Case):
    def test_the_bill_and_two(self):
        self.assert_same([is_one_for_one(BILL), two_out(BILL), most_out(BILL), rivals(BILL, "rate")],
                         [True, None, 1, ("net", "tax", "gross")])
        self.assert_same([is_one_for_one(form=BILL), two_out(form=BILL), most_out(form=BILL), rivals(field="rate", form=BILL)],
                         [True, None, 1, ("net", "tax", "gross")])

    def test_without_rules(self):
        self.assert_same([is_one_for_one(FREE), two_out(FREE), most_out(FREE), rivals(FREE, "a")], [True, None, 0, ()])
        alone = Form(["a"], {"p": Loose(["a"])})
        self.assert_same([is_one_for_one(alone), two_out(alone), most_out(alone), rivals(alone, "a")], [True, None, 0, ()])

    def assert_like_the_words(self, form):
        outs = outs_of(model_of(form))
        most = max(len(lot) for found in outs.values() for lot in found)
        self.assert_same(most_out(form), most)
        self.assert_same(is_one_for_one(form), most < 2)
        for field in form.fields:
            self.assert_same(rivals(form, field), model_of(form).lot(set(chain(*outs[field]))))
        self.assert_two_out(form, most < 2)
        return most

    def assert_two_out(self, form, is_none):
        found = two_out(form)
        if is_none:
            self.assertIs(found, None)
        else:
            self.assert_same([type(found), len(found), type(found[0])], [tuple, 2, list])
            row, field = found
            self.assertGreater(len(thrown_out(form, row, field)), 1)
            model = model_of(form)
            self.assertGreater(len(set(model.kept(row)) - set(model.kept([*row, field]))), 1)

    def test_small_forms(self):
        found = {self.assert_like_the_words(form) for form in small_forms()}
        self.assertEqual(found, {0, 1})

    def test_forms_of_all_kinds(self):
        found = {self.assert_like_the_words(form) for form in any_forms(250, 73, 5, 4)}
        self.assertLessEqual({0, 1}, found)

    def test_edits_that_throw_out_several_fields(self):
        self.assert_same([self.assert_like_the_words(TWO), self.assert_like_the_words(THREE)], [2, 3])
        found = [self.assert_like_the_words(form) for form in tangled_forms(60, 74)]
        self.assertGreater(len([most for most in found if most > 1]), 5)

    def test_large_forms(self):
        chance = random.Random(75)
        for form in [*LARGE, *[form for form in any_forms(300, 76, 10, 6) if len(form.fields) > 7]]:
            lots = [set(lot) for lot in clashes(form)]
            good = all(any(lot <= (one | other) - {field} for lot in lots)
                       for one, other in combinations(lots, 2) for field in one & other)
            self.assert_same(is_one_for_one(form), good)
            self.assert_two_out(form, good)
            if good:
                for row in any_rows(form, chance, 10):
                    self.assertLess(len(thrown_out(form, row, row[0] if row else form.fields[0])), 2)

    def test_webs_are_one_for_one(self):
        form = Form(ten(), {"a": Loose(["f0", "f1", "f2"]), "b": Loose(["f0", "f3", "f4"]), "c": Loose(["f1", "f3", "f5"]),
                            "d": Loose(["f6", "f7"]), "e": Loose(["f7", "f8", "f2"])})
        self.assert_same([is_one_for_one(form), two_out(form)], [True, None])

    def test_seven_fields_are_enough_and_eight_are_not(self):
        seven = Form(ten()[:7], {"p": Loose(ten()[:7]), "q": Loose(["f0", "f1"])})
        self.assert_same([most_out(seven), rivals(seven, "f6")], [1, ("f2", "f3", "f4", "f5")])
        self.assert_same(rivals(seven, "f0"), ("f1",))
        for many in [8, 9, 10]:
            form = Form(ten()[:many], {})
            self.assert_raises(TooMany, ["fields", 7], most_out, form)
            self.assert_raises(TooMany, ["fields", 7], rivals, form, "f0")
            # Errors of the parameters stand ahead.
            self.assert_raises(UnknownField, ["x"], rivals, form, "x")
            self.assert_same([is_one_for_one(form), two_out(form)], [True, None])

    def test_seven_fields_of_all_kinds(self):
        chance = random.Random(77)
        for form in any_forms(150, 77, 7, 5):
            union = {field: set() for field in form.fields}
            for row in any_rows(form, chance, 15):
                for field in form.fields:
                    out = thrown_out(form, row, field)
                    union[field] |= set(out)
                    self.assertLessEqual(len(out), most_out(form))
            for field in form.fields:
                self.assertLessEqual(union[field], set(rivals(form, field)))

    def test_unknown_fields(self):
        for value in [*NO_NAMES, "sum", "nett", ("net",), ["net"]]:
            self.assert_raises(UnknownField, [value], rivals, BILL, value)

    def test_repeated_queries(self):
        for form in [*any_forms(50, 78, 6, 4), *tangled_forms(50, 78)]:
            self.assert_same([two_out(form), most_out(form), is_one_for_one(form), sure_last(form)],
                             [two_out(form), most_out(form), is_one_for_one(form), sure_last(form)])

    def test_what_is_returned_may_be_changed(self):
        found, again = two_out(TWO), two_out(TWO)
        found[0].clear()
        self.assert_same(two_out(TWO), again)


def missing_ways(form):
    return [(name, field) for name in form.names() for field in form[name].fields if field not in form[name].ways]


def with_ways(form, ways):
    rules = {name: Loose(rule.fields, ways=[*rule.ways, *[field for other, field in ways if other == name]])
             for name, rule in form.rules().items()}
    return Form(form.fields, rules)


class TestFewestWays(Case):
    def test_one_rule(self):
        form = Form(["a", "b", "c"], {"p": Loose(["a", "b", "c"], ways=["b"])})
        self.assert_same([sure_last(form), fewest_ways(form, 0)], [0, []])
        self.assertIn(fewest_ways(form, 1), [[("p", "a")], [("p", "c")]])
        self.assert_same([fewest_ways(form, 2), fewest_ways(many=2, form=form)], [[("p", "a"), ("p", "c")]] * 2)
        self.assert_same([fewest_ways(form, 3), fewest_ways(form, 4), fewest_ways(form, 10 ** 30)], [None] * 3)

    def test_one_way_that_helps_two_sets(self):
        both = ["a", "b"]
        form = Form(["a", "b", "c", "d", "e", "f", "g"], {
            "p": Loose([*both, "c", "d"], ways=[*both, "c"]), "q": Loose([*both, "e", "f"], ways=[*both, "e"]),
            "z": Loose([*both, "g"], ways=both)})
        # d for p and f for q would do as well, but these are two ways.
        self.assert_same(sure_last(with_ways(form, [("p", "d"), ("q", "f")])), 1)
        self.assert_same([sure_last(form), fewest_ways(form, 1)], [0, [("z", "g")]])

    def test_without_missing_ways(self):
        self.assert_same([fewest_ways(BILL, many) for many in range(5)], [[], [], None, None, None])
        self.assert_same([fewest_ways(FREE, many) for many in range(5)], [[], [], [], None, None])

    def test_against_all_choices(self):
        chance = random.Random(79)
        lengths = set()
        for form in [*[*small_forms()][::3], *any_forms(250, 79, 5, 3)]:
            missing = missing_ways(form)
            many = chance.randint(0, 3)
            if len(missing) > 6:
                continue
            good = [list(ways) for ways in lots_of(missing) if stay_enough(with_ways(form, ways), many)]
            found = fewest_ways(form, many)
            if good:
                self.assertIs(type(found), list)
                self.assertIn(found, good)
                self.assertEqual(len(found), len(good[0]))
                self.assert_same(found, sorted(found))
                self.assertTrue(all(type(way) is tuple for way in found))
            else:
                self.assertIs(found, None)
            self.assert_same(fewest_ways(form, many), found)
            lengths.add(None if found is None else len(found))
        self.assertLessEqual({None, 0, 1, 2}, lengths)

    def test_all_kinds_of_rules(self):
        form = Form(["a", "b", "c", "d"], {"q": Total({"a": 1, "b": 1, "c": 1}, ways=["a"]), "p": Product(["c"], ["d"], ways=["d"])})
        enough = [list(ways) for ways in lots_of(missing_ways(form)) if sure_last(with_ways(form, ways)) >= 1]
        self.assertIn(fewest_ways(form, 1), [ways for ways in enough if len(ways) == len(enough[0])])

    def test_twelve_ways_are_enough_and_thirteen_are_not(self):
        twelve = Form(ten(), {"p": Loose(ten(), ways=["f8", "f9"]), "q": Loose(ten()[:5], ways=["f2"])})
        self.assert_same(len(missing_ways(twelve)), 12)
        for many in range(7):
            found = fewest_ways(twelve, many)
            all_of_them = sure_last(with_ways(twelve, missing_ways(twelve)))
            if many > all_of_them:
                self.assertIs(found, None)
            else:
                self.assertGreaterEqual(sure_last(with_ways(twelve, found)), many)
                for ways in combinations(missing_ways(twelve), max(0, len(found) - 1)):
                    if len(ways) < len(found):
                        self.assertLess(sure_last(with_ways(twelve, ways)), many)
        thirteen = Form(ten(), {"p": Loose(ten(), ways=["f9"]), "q": Loose(ten()[:5], ways=["f2"])})
        for many in [0, 1, 5, 11, 10 ** 30]:
            self.assert_raises(TooMany, ["ways", 12], fewest_ways, thirteen, many)
        for value in NO_COUNTS:
            self.assert_raises(InvalidCount, [value], fewest_ways, thirteen, value)

    def test_most_ways_and_most_rules(self):
        form = Form(ten(), {f"r{at}": Loose([f"f{at}", f"f{at + 1}", f"f{at + 2}"], ways=[f"f{at}"]) for at in range(6)})
        self.assert_same(len(missing_ways(form)), 12)
        for many in range(5):
            found = fewest_ways(form, many)
            if found is None:
                self.assertLess(sure_last(with_ways(form, missing_ways(form))), many)
            else:
                self.assertGreaterEqual(sure_last(with_ways(form, found)), many)

    def test_wrong_counts(self):
        for value in NO_COUNTS:
            self.assert_raises(InvalidCount, [value], fewest_ways, BILL, value)

    def test_what_is_returned_may_be_changed(self):
        form = Form(["a", "b"], {"p": Loose(["a", "b"], ways=["b"])})
        found = fewest_ways(form, 1)
        self.assert_same(found, [("p", "a")])
        found.clear()
        self.assert_same(fewest_ways(form, 1), [("p", "a")])

    def test_added_ways_never_bar(self):
        for form in any_forms(60, 80, 5, 3):
            try:
                with_ways(form, missing_ways(form))
            except Barred:
                self.fail(repr(form.rules()))


def stay_enough(form, many):
    return many <= len(form.fields) and stay_last(model_of(form), many)
