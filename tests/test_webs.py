"""Point [63] and the interface section keptlast/webs.py."""

import random
from itertools import combinations

from keptlast.errors import NotWeb
from keptlast.exchange import is_one_for_one
from keptlast.forms import Form, private, rule_sets
from keptlast.peels import count_full, full_lots
from keptlast.rules import Loose, Product, Total
from keptlast.webs import count_trees, ends, is_web
from models import any_forms, formed, model_of, small_forms
from support import Case
from test_forms import BILL, SHARING, ten

FREE = Form(["b", "a"], {})
# Each of the six rules shares one field with its neighbours, and four of them have one of their own.
RING = Form(ten(), {f"r{at}": Loose([f"f{at}", f"f{(at + 1) % 6}", *([f"f{6 + at}"] if at < 4 else [])]) for at in range(6)})
# All six rules meet in pairs; two of them have a field that no other one has.
TANGLE = Form(ten(), {"a": Loose(["f0", "f1", "f2"]), "b": Loose(["f0", "f3", "f4"]), "c": Loose(["f1", "f3", "f5", "f8"]),
                      "d": Loose(["f2", "f6"]), "e": Loose(["f4", "f6", "f7"]), "f": Loose(["f5", "f7", "f9"])})


def any_webs(count, seed, most_fields=7, most_rules=4):
    """Webs whose fields belong to no, one or two rules; those that are barred are left out."""
    chance = random.Random(seed)
    made = 0
    while made < count:
        fields = [f"f{at}" for at in range(chance.randint(1, most_fields))]
        names = [f"r{at}" for at in range(chance.randint(0, most_rules))]
        owners = {field: chance.sample(names, min(len(names), chance.choice([0, 1, 1, 2, 2, 2]))) for field in fields}
        tied = {name: [field for field in fields if name in owners[field]] for name in names}
        chance.shuffle(fields)
        for form in formed([(fields, {name: Loose(tied[name]) for name in names if tied[name]})]):
            made += 1
            yield form


def trees(form):
    """All lots of edges that join all corners without a ring, by trying all lots."""
    corners = ["", *form.names()]
    edges = {}
    for field in form.fields:
        owners = [name for name in form.names() if field in form[name].fields]
        if owners:
            edges[field] = (owners[0], owners[1] if len(owners) > 1 else "")
    for lot in combinations(edges, len(corners) - 1):
        groups = {corner: {corner} for corner in corners}
        for field in lot:
            joined = groups[edges[field][0]] | groups[edges[field][1]]
            for corner in joined:
                groups[corner] = joined
        if len(groups[""]) == len(corners):
            yield lot


class TestWebs(Case):
    def test_the_bill(self):
        self.assert_same([is_web(BILL), is_web(form=BILL)], [True, True])
        self.assert_same(ends(BILL), {"gross": ("", "sum"), "net": ("share", "sum"), "rate": ("", "share"), "tax": ("share", "sum")})
        self.assert_same(ends(form=BILL), ends(BILL))
        self.assert_same([count_trees(BILL), count_trees(form=BILL)], [5, 5])

    def test_without_rules(self):
        self.assert_same([is_web(FREE), ends(FREE), count_trees(FREE)], [True, {}, 1])
        self.assert_same([count_trees(Form(ten(), {})), ends(Form(ten(), {}))], [1, {}])

    def test_fields_of_no_rule_are_no_edges(self):
        form = Form(["z", "b", "a", "n"], {"q": Loose(["b"]), "p": Loose(["b", "a"])})
        self.assert_same([is_web(form), ends(form), count_trees(form)], [True, {"a": ("", "p"), "b": ("p", "q")}, 1])
        self.assert_same(ends(Form(["b", "a"], {"p": Loose(["a", "b"])})), {"a": ("", "p"), "b": ("", "p")})

    def test_rules_of_all_kinds(self):
        form = Form(["a", "b", "c", "d"], {"t": Total({"a": 2, "b": 1}), "p": Product(["b"], ["c"]), "l": Loose(["c", "d"])})
        self.assert_same([ends(form), count_trees(form)],
                         [{"a": ("", "t"), "b": ("p", "t"), "c": ("l", "p"), "d": ("", "l")}, 4])

    def assert_like_the_words(self, form):
        owners = {field: tuple(name for name in form.names() if field in form[name].fields) for field in form.fields}
        self.assert_same(is_web(form), all(len(names) <= 2 for names in owners.values())
                         and all(form[name].ways == form[name].fields for name in form.names()))
        found = ends(form)
        self.assert_same(found, {field: (("",) + owners[field])[-2:] for field in sorted(form.fields) if owners[field]})
        self.assert_same(list(found), sorted(found))
        for corners in found.values():
            self.assert_same([len(corners), corners], [2, tuple(sorted(corners))])
        lots = list(trees(form))
        self.assert_same([count_trees(form), count_full(form)], [len(lots)] * 2)
        worked = {frozenset(form.fields) - frozenset(lot) for lot in full_lots(form)}
        self.assertEqual(worked, {frozenset(lot) for lot in lots})
        for names in rule_sets(form):
            self.assert_same(private(form, names), tuple(
                field for field in form.fields if field in found and sum(corner in names for corner in found[field]) == 1))
        self.assert_same(is_one_for_one(form), True)

    def test_against_all_lots_of_edges(self):
        for form in [*any_webs(250, 81), *any_webs(60, 82, 10, 6)]:
            self.assert_like_the_words(form)

    def test_against_all_plans(self):
        for form in any_webs(150, 83, 6, 4):
            self.assert_same(count_trees(form), len(model_of(form).full))

    def test_ten_fields_and_six_rules(self):
        for form in [RING, TANGLE]:
            self.assert_same([len(form.fields), len(form)], [10, 6])
            self.assert_like_the_words(form)
        self.assert_same([count_trees(RING), len(ends(RING))], [87, 10])
        self.assert_same(ends(RING)["f0"], ("r0", "r5"))

    def test_small_and_other_forms(self):
        webs = 0
        for form in [*small_forms(), *any_forms(300, 84)]:
            crowded = [field for field in form.fields if len(form.rules_of(field)) > 2]
            partial = [name for name in form.names() if form[name].ways != form[name].fields]
            self.assert_same(is_web(form), not crowded and not partial)
            if is_web(form):
                webs += 1
                self.assert_like_the_words(form)
            else:
                for query in [ends, count_trees]:
                    self.assert_raises(NotWeb, [(crowded + partial)[0]], query, form)
        self.assertGreater(webs, 50)


class TestNoWebs(Case):
    def assert_no_web(self, form, name):
        self.assert_same(is_web(form), False)
        for query in [ends, count_trees]:
            self.assert_raises(NotWeb, [name], query, form)
            self.assert_raises(NotWeb, [name], query, form=form)

    def test_a_field_of_three_rules(self):
        rules = {"p": Loose(["x", "m", "a"]), "q": Loose(["m", "x", "b"]), "r": Loose(["x", "m", "c"])}
        self.assert_no_web(Form(["a", "x", "b", "m", "c"], rules), "x")
        self.assert_no_web(Form(["a", "b", "m", "x", "c"], rules), "m")

    def test_a_field_that_is_no_way(self):
        rules = {"q": Loose(["a", "b"], ways=["a"]), "p": Loose(["b", "c"], ways=["c"]), "a": Loose(["d"])}
        self.assert_no_web(Form(["a", "b", "c", "d"], rules), "p")
        self.assert_no_web(BILL - "share" | Form(["rate", "net", "tax"], {"z": Product(["net", "rate"], ["tax"], ways=["tax"])}), "z")

    def test_fields_come_ahead_of_rules(self):
        rules = {"a": Loose(["x", "f"], ways=["f"]), "q": Loose(["x", "b"]), "r": Loose(["x", "c"])}
        self.assert_no_web(Form(["b", "c", "f", "x"], rules), "x")
        self.assert_no_web(Form(["b", "c", "f", "x"], {name: rules[name] for name in ["a", "q"]}), "a")

    def test_a_name_that_a_field_and_a_rule_have(self):
        self.assert_no_web(Form(["b", "a"], {"b": Loose(["a", "b"], ways=["a"])}), "b")


class TestAnswers(Case):
    def test_what_is_returned_may_be_changed(self):
        found = ends(BILL)
        again = ends(BILL)
        self.assertIsNot(found, again)
        found.clear()
        self.assert_same(ends(BILL), again)

    def test_repeated_queries(self):
        for form in any_webs(40, 85):
            self.assert_same([is_web(form), ends(form), count_trees(form)], [is_web(form), ends(form), count_trees(form)])
        self.assertEqual(BILL["share"], SHARING)
