"""Points [34] and [35] and the interface section keptlast/clashes.py."""

from itertools import permutations, product

from keptlast.clashes import (clash_rules, clashes, first_clash, is_clash, is_lots_paper, lot_apart, lots_paper, never)
from keptlast.errors import InvalidLot, OtherFields, UnknownField
from keptlast.forms import Form, private, rule_sets
from keptlast.peels import can_stay
from keptlast.rules import Loose, Product, Total
from models import NO_LISTS, any_forms, any_pairs, lots_of, model_of, pairs_of_forms, rules_over, small_forms
from support import Case, EqualToAll, Odd
from test_forms import ADDING, BILL, FIELDS, NO_NAMES, ten

FREE = Form(["b", "a"], {})
PAIR = Form(["a", "b", "c"], {"p": Loose(["a", "b"])})
THREE = Form(["a", "b", "c"], {"q": Loose(["a", "b", "c"])})
# Ten fields and six rules each.
LARGE = [
    Form(ten(), {"a": Loose(["f0", "f9"]), "b": Loose(["f1", "f8", "f0"]), "c": Loose(["f2", "f7", "f1"]),
                 "d": Loose(["f3", "f6"]), "e": Loose(["f4", "f5", "f3"]), "f": Loose(["f5", "f0", "f4"])}),
    Form(ten(), {f"r{at}": Loose([f"f{at}", f"f{at + 1}", f"f{at + 2}", "f9"]) for at in range(6)}),
    Form(ten()[::-1], {f"r{at}": Loose([f"f{at}", f"f{at + 2}", f"f{at + 4}"], ways=[f"f{at}", f"f{at + 4}"])
                       for at in range(6)}),
    Form(ten(), {"z": Total({"f1": 1, "f2": 1, "f3": 1, "f4": -1}), "y": Product(["f4", "f5"], ["f6"]),
                 "x": Total({"f6": 1, "f7": 1, "f0": -1}), "w": Product(["f0", "f8"], ["f9"], 2),
                 "v": Loose(["f9", "f1"], ways=["f9"]), "u": Loose(["f2", "f8", "f5"])}),
]


class TestClashes(Case):
    def test_the_bill(self):
        expected = [("rate", "gross"), ("rate", "net", "tax"), ("net", "tax", "gross")]
        self.assert_same([list(clashes(BILL)), list(clashes(form=BILL)), never(BILL)], [expected, expected, ()])
        self.assert_same(clash_rules(BILL, ["gross", "rate"]), ("share", "sum"))
        self.assert_same([is_clash(BILL, ["gross", "rate"]), is_clash(BILL, ["gross", "rate", "net"])], [True, False])
        self.assert_same([first_clash(BILL, "tax"), first_clash(field="gross", form=BILL)],
                         [("rate", "net", "tax"), ("rate", "gross")])

    def test_without_rules(self):
        self.assert_same([list(clashes(FREE)), never(FREE), first_clash(FREE, "a"), is_clash(FREE, []),
                          clash_rules(FREE, ["a", "b"])], [[], (), None, False, None])

    def assert_like_the_words(self, form):
        model = model_of(form)
        expected = model.clashes()
        self.assert_same(list(clashes(form)), expected)
        for lot in model.lots():
            sets = [names for names in model.sets() if model.private(names) == lot]
            for told in [lot, list(lot)[::-1]]:
                self.assert_same(is_clash(form, told), lot in expected)
                self.assert_same(clash_rules(form, told), sets[0] if lot in expected else None)
        self.assert_same(never(form), tuple(field for field in form.fields if not model.can_stay([field])))
        for field in form.fields:
            self.assert_same(first_clash(form, field), next((lot for lot in expected if field in lot), None))

    def test_against_all_plans(self):
        for form in [*small_forms(), *any_forms(150, 31)]:
            self.assert_like_the_words(form)

    def test_large_forms(self):
        for form in LARGE:
            self.assert_like_the_words(form)

    def test_most_sets_of_rules(self):
        form = Form(ten(), {f"r{at}": Loose([f"f{at}", "f9"]) for at in range(6)})
        found = list(clashes(form))
        # Two of the first six fields, or one of them and the last one.
        self.assert_same(found[:2] + found[-2:], [("f0", "f1"), ("f0", "f2"), ("f4", "f9"), ("f5", "f9")])
        self.assert_same(len(found), 21)

    def test_several_sets_with_the_same_private_fields(self):
        form = Form(["a", "b", "c"], {"p": Loose(["a", "b"], ways=["a"]), "q": Loose(["b", "c"], ways=["b"])})
        self.assert_same([private(form, ["p"]), private(form, ["p", "q"])], [("a",), ("a",)])
        self.assert_same([list(clashes(form)), clash_rules(form, ["a"]), never(form)], [[("a",), ("b",)], ("p",), ("a", "b")])

    def test_two_generators_by_turns(self):
        one, other = clashes(BILL), clashes(BILL)
        self.assertIs(iter(one), one)
        self.assert_same([next(one), next(one), next(other), next(one), next(other), next(one, None)],
                         [("rate", "gross"), ("rate", "net", "tax"), ("rate", "gross"), ("net", "tax", "gross"),
                          ("rate", "net", "tax"), None])

    def test_wrong_lots(self):
        for query in [is_clash, clash_rules]:
            for value in [*NO_LISTS, Odd(), EqualToAll()]:
                self.assert_raises(InvalidLot, [None], query, BILL, value)
            for value in [*NO_NAMES, "sum"]:
                self.assert_raises(InvalidLot, [0], query, BILL, [value])
                self.assert_raises(InvalidLot, [1], query, BILL, ("net", value, "net"))
            self.assert_raises(InvalidLot, [2], query, BILL, ["net", "tax", "tax", None])

    def test_unknown_fields(self):
        for value in [*NO_NAMES, "sum", "nett", ("net",), ["net"]]:
            self.assert_raises(UnknownField, [value], first_clash, BILL, value)

    def test_the_lot_stays(self):
        lot = ["gross", "rate"]
        is_clash(BILL, lot)
        clash_rules(BILL, lot)
        self.assert_same(lot, ["gross", "rate"])


def is_paper(one, other, paper):
    """By the words of the document, for values of the right kind."""
    inner, outer = model_of(one), model_of(other)
    return set(paper) == set(outer.sets()) and all(
        names in inner.sets() and set(inner.private(names)) <= set(outer.private(key)) for key, names in paper.items())


class TestLotsPapers(Case):
    def test_pair_and_three(self):
        self.assert_same([lots_paper(PAIR, THREE), lots_paper(THREE, PAIR)], [{("q",): ("p",)}, None])
        self.assert_same([lot_apart(PAIR, THREE), lot_apart(THREE, PAIR)], [None, ("a", "b")])
        self.assert_same([is_lots_paper(PAIR, THREE, {("q",): ("p",)}), is_lots_paper(THREE, PAIR, {("p",): ("q",)})],
                         [True, False])
        self.assert_same([lots_paper(other=THREE, one=PAIR), lot_apart(other=PAIR, one=THREE),
                          is_lots_paper(value={("q",): ("p",)}, other=THREE, one=PAIR)], [{("q",): ("p",)}, ("a", "b"), True])

    def test_without_rules(self):
        same = Form(["a", "b"], {})
        self.assert_same([lots_paper(FREE, same), is_lots_paper(FREE, same, {}), lot_apart(FREE, same)], [{}, True, None])
        ruled = Form(["a", "b"], {"p": Loose(["b"])})
        self.assert_same([lots_paper(ruled, FREE), lots_paper(FREE, ruled), lot_apart(FREE, ruled)], [{}, None, ("b",)])
        for value in [[], (), None, True, 0, "", set(), {("p",): ("p",)}, {(): ()}]:
            self.assert_same(is_lots_paper(FREE, same, value), False)

    def test_keys_are_sorted_as_python_compares_tuples(self):
        rules = {name: Loose([field]) for name, field in zip(["a", "a1", "ab", "b", "b0"], ten())}
        form = Form(ten(), rules)
        found = list(lots_paper(form, form))
        self.assert_same(found, sorted(found))
        self.assert_same(len(found), 31)
        self.assert_same(found[:4], [("a",), ("a", "a1"), ("a", "a1", "ab"), ("a", "a1", "ab", "b")])

    def assert_like_the_words(self, one, other):
        first, second = model_of(one), model_of(other)
        apart = [lot for lot in first.lots() if first.can_stay(lot) and not second.can_stay(lot)]
        paper, lot = lots_paper(one, other), lot_apart(one, other)
        if apart:
            self.assertIs(paper, None)
            self.assertIn(lot, apart)
            self.assert_same([type(lot), len(lot)], [tuple, len(apart[0])])
        else:
            self.assertIs(lot, None)
            self.assertIs(type(paper), dict)
            self.assert_same(list(paper), sorted(paper))
            self.assertTrue(is_paper(one, other, paper))
            self.assert_same(is_lots_paper(one, other, paper), True)
        self.assert_same(one <= other, not apart)

    def test_small_forms(self):
        for one, other in pairs_of_forms([*small_forms(), *any_forms(200, 32, 4, 3)], 13):
            self.assert_like_the_words(one, other)

    def test_other_sequences(self):
        rules = list(rules_over(["a", "b", "c"]))[::2]
        forms = [Form(fields, {"p": rule}) for fields in permutations(["a", "b", "c"]) for rule in rules]
        for one, other in pairs_of_forms(forms, 7):
            self.assert_like_the_words(one, other)

    def test_nearly_the_same_forms(self):
        for one, other in any_pairs(400, 33, 6, 4):
            self.assert_like_the_words(one, other)
            self.assert_like_the_words(one, Form(one.fields[::-1], other.rules()))
            self.assert_like_the_words(other, one)

    def test_large_forms(self):
        for one, other in product([*LARGE, LARGE[0] - "a", LARGE[3] - "z", LARGE[1] - "r5"], repeat=2):
            self.assert_like_the_words(one, other)

    def test_each_dict_of_sets(self):
        many = 0
        for one, other in pairs_of_forms(small_forms(), 97):
            keys, values = list(rule_sets(other)), list(rule_sets(one))
            for chosen in product(values, repeat=len(keys)):
                many += 1
                paper = dict(zip(keys, chosen))
                self.assert_same(is_lots_paper(one, other, paper), is_paper(one, other, paper))
                self.assert_same(is_lots_paper(one, other, dict(reversed(list(paper.items())))), is_paper(one, other, paper))
        self.assertGreater(many, 1000)

    def test_changed_papers(self):
        fewer = Form(FIELDS, {"sum": ADDING, "share": Product(["net", "rate"], ["tax"], ways=["tax"])})
        right = lots_paper(fewer, BILL)
        self.assert_same(is_lots_paper(fewer, BILL, right), True)
        for key in right:
            without = {other: right[other] for other in right if other != key}
            self.assert_same(is_lots_paper(fewer, BILL, without), False)
            values = [None, True, 0, "", "share", [], (), ["share"], list(right[key]), ("x",), ("share", "x"), ("share", "share"),
                      ("sum", "share"), (None,), (1,), (["share"],), (EqualToAll(),), EqualToAll(), Odd(), {"share"}, {}, (("share",),)]
            for value in values:
                self.assert_same(is_lots_paper(fewer, BILL, {**right, key: value}), False)
            for wrong in ["share", "", (), ("x",), tuple(reversed(key)) if len(key) > 1 else ("net",), (1,), None, True, 0, b"sum",
                          (key,), ("share", None), ("sum", "sum")]:
                self.assert_same(is_lots_paper(fewer, BILL, {**without, wrong: right[key]}), False)
                self.assert_same(is_lots_paper(fewer, BILL, {**right, wrong: right[key]}), False)
        for value in [None, True, 0, 1, "", "share", b"", [], (), list(right), list(right.items()), tuple(right.items()), Odd(),
                      EqualToAll(), set(right), {}, BILL]:
            self.assert_same(is_lots_paper(fewer, BILL, value), False)

    def test_values_that_are_sets_with_too_many_private_fields(self):
        one = Form(["a", "b", "c"], {"p": Loose(["a"]), "q": Loose(["b", "c"])})
        other = Form(["c", "a", "b"], {"r": Loose(["a", "b"])})
        self.assert_same(lots_paper(one, other), {("r",): ("p",)})
        for names, expected in [(("p",), True), (("q",), False), (("p", "q"), False), (("r",), False)]:
            self.assert_same(is_lots_paper(one, other, {("r",): names}), expected)

    def test_other_fields(self):
        one, other = Form(["d", "b", "a"], {}), Form(["c", "a", "d", "e"], {})
        for query in [lots_paper, lot_apart, lambda *forms: is_lots_paper(*forms, {}), lambda *forms: is_lots_paper(*forms, 0)]:
            self.assert_raises(OtherFields, ["b"], query, one, other)
            self.assert_raises(OtherFields, ["b"], query, other, one)
            self.assert_raises(OtherFields, ["a10"], query, Form(["a9", "x"], {}), Form(["x", "a10"], {}))

    def test_what_is_returned_may_be_changed(self):
        found = lots_paper(BILL, BILL)
        again = lots_paper(BILL, BILL)
        self.assertIsNot(found, again)
        self.assert_same(found, again)
        found.clear()
        self.assert_same(lots_paper(BILL, BILL), again)

    def test_the_paper_stays(self):
        paper = {("q",): ("p",)}
        is_lots_paper(PAIR, THREE, paper)
        self.assert_same(paper, {("q",): ("p",)})

    def test_repeated_queries(self):
        for one, other in any_pairs(60, 34):
            for query in [lots_paper, lot_apart]:
                self.assert_same(query(one, other), query(one, other))
            for lot in lots_of(one.fields):
                self.assert_same([can_stay(one, lot), clash_rules(one, lot)], [can_stay(one, lot), clash_rules(one, lot)])
