"""Points [21] and [22] and the interface section keptlast/forms.py, without the operators that take two forms."""

from keptlast.errors import (Barred, InvalidFields, InvalidRow, InvalidRules, InvalidSet, TooMany, UnknownField,
                             UnknownRule)
from keptlast.forms import Form, private, rule_sets
from keptlast.rules import Loose, Product, Rule, Total
from models import NO_LISTS, Model, any_forms, any_parts, formed, model_of, small_forms, small_parts
from support import Case, EqualToAll, Odd

ADDING, SHARING = Total({"net": 1, "tax": 1, "gross": -1}), Product(["net", "rate"], ["tax"])
FIELDS = ["rate", "net", "tax", "gross"]
BILL = Form(FIELDS, {"sum": ADDING, "share": SHARING})
NO_NAMES = ["", "A", "aB", "1a", "abcdefghi", "a_b", "a b", "a\n", b"a", None, True, 1, ["a"], ("a",), {}, {"a"}, Odd(),
            EqualToAll(), ADDING]
NO_RULES = [None, True, 0, 1, "sum a = 0", "", b"", [], (), {}, {"a": ADDING}, Rule, Odd(), EqualToAll(), BILL]


def ten(letter="f"):
    return [f"{letter}{at}" for at in range(10)]


class TestForm(Case):
    def assert_bill(self, form):
        self.assertIs(type(form), Form)
        self.assert_same(form.fields, ("rate", "net", "tax", "gross"))
        self.assert_same(form.names(), ["share", "sum"])
        self.assert_same(form.rules(), {"share": SHARING, "sum": ADDING})
        self.assert_same(len(form), 2)
        self.assertEqual(form, BILL)

    def test_by_position_and_by_names(self):
        rules = {"sum": ADDING, "share": SHARING}
        self.assert_bill(Form(FIELDS, rules))
        self.assert_bill(Form(tuple(FIELDS), {"share": SHARING, "sum": ADDING}))
        self.assert_bill(Form(rules=rules, fields=FIELDS))
        self.assert_bill(Form(FIELDS, rules=rules))

    def test_of(self):
        self.assert_bill(Form.of("rate", "net", "tax", "gross", share=SHARING, sum=ADDING))
        self.assert_bill(Form.of(*FIELDS, sum=ADDING, share=SHARING))
        self.assert_same(Form.of("a").fields, ("a",))
        # These are names of the parameters of the class.
        form = Form.of("a", "b", "c", fields=Loose(["a"]), rules=Loose(["b"]), self=Loose(["c"]))
        self.assert_same(form.names(), ["fields", "rules", "self"])

    def test_without_rules(self):
        form = Form(["b", "a"], {})
        self.assert_same([form.fields, form.names(), form.rules(), len(form)], [("b", "a"), [], {}, 0])
        self.assert_same([form.rules_of("a"), list(rule_sets(form)), form([]), form(["a"])], [(), [], ("b", "a"), ("b", "a")])

    def test_limits_are_class_values(self):
        self.assert_same([Form.MOST_FIELDS, Form.MOST_RULES, BILL.MOST_FIELDS, BILL.MOST_RULES], [10, 6, 10, 6])

    def test_item(self):
        self.assertIs(BILL["sum"], ADDING)
        self.assertIs(BILL["share"], SHARING)
        for name in [*NO_NAMES, *FIELDS, "su", "sums"]:
            self.assert_raises(UnknownRule, [name], lambda: BILL[name])

    def test_no_iteration(self):
        # Python would otherwise ask for the items 0, 1, 2 ..
        with self.assertRaises(TypeError):
            iter(BILL)

    def test_in(self):
        for field in FIELDS:
            self.assert_same([field in BILL, field not in BILL], [True, False])
        for value in [*NO_NAMES, "sum", "share", "ne", "nett", tuple(FIELDS), FIELDS]:
            self.assert_same(value in BILL, False)

    def test_rules_of(self):
        self.assert_same([BILL.rules_of(field) for field in FIELDS], [("share",), ("share", "sum"), ("share", "sum"), ("sum",)])
        self.assert_same(BILL.rules_of(field="net"), ("share", "sum"))
        self.assert_same(Form(["a", "b"], {"p": Loose(["a"])}).rules_of("b"), ())
        for value in [*NO_NAMES, "sum", "share", "nett"]:
            self.assert_raises(UnknownField, [value], BILL.rules_of, value)

    def test_names_are_sorted(self):
        names = ["b", "a10", "a9", "a", "ab", "z"]
        form = Form(ten(), {name: Loose([f"f{at}"]) for at, name in enumerate(names)})
        self.assert_same(form.names(), ["a", "a10", "a9", "ab", "b", "z"])
        self.assert_same(list(form.rules()), ["a", "a10", "a9", "ab", "b", "z"])

    def test_one_field_and_most_fields(self):
        self.assert_same(Form(["abcdefgh"], {}).fields, ("abcdefgh",))
        form = Form(ten(), {f"r{at}": Loose([f"f{at}"]) for at in range(6)})
        self.assert_same([len(form.fields), len(form)], [10, 6])

    def test_what_was_passed_is_copied_and_stays(self):
        fields, rules = list(FIELDS), {"sum": ADDING, "share": SHARING}
        form = Form(fields, rules)
        self.assert_same([fields, list(rules)], [FIELDS, ["sum", "share"]])
        fields.append("more")
        fields[0] = "other"
        rules["share"] = ADDING
        rules["more"] = Loose(["net"])
        del rules["sum"]
        self.assert_bill(form)

    def test_what_is_returned_may_be_changed(self):
        form = Form(FIELDS, {"sum": ADDING, "share": SHARING})
        form.rules().clear()
        form.names().clear()
        held = form.rules()
        held["sum"] = SHARING
        self.assert_bill(form)
        self.assertIsNot(form.rules(), form.rules())
        self.assertIsNot(form.names(), form.names())

    def test_a_form_does_not_change(self):
        with self.assertRaises(AttributeError):
            BILL.fields = ("a",)
        with self.assertRaises(TypeError):
            BILL["sum"] = ADDING
        with self.assertRaises(TypeError):
            del BILL["sum"]
        self.assert_bill(BILL)


class TestErrors(Case):
    def test_fields_that_are_no_list_with_an_element(self):
        for value in [*NO_LISTS, [], (), Odd(), EqualToAll()]:
            self.assert_raises(InvalidFields, [None], Form, value, {})
            self.assert_raises(InvalidFields, [None], Form, value, None)
        self.assert_raises(InvalidFields, [None], Form.of)
        self.assert_raises(InvalidFields, [None], Form.of, sum=ADDING)

    def test_fields_with_a_wrong_element(self):
        for value in NO_NAMES:
            self.assert_raises(InvalidFields, [0], Form, [value], {})
            self.assert_raises(InvalidFields, [2], Form, ("a", "b", value, "c"), {})
            self.assert_raises(InvalidFields, [1], Form.of, "a", value, "a")
        self.assert_raises(InvalidFields, [2], Form, ["a", "b", "a", "b"], {})
        self.assert_raises(InvalidFields, [1], Form, ["a", "a"], {})
        self.assert_raises(InvalidFields, [1], Form, ["a", "A", "a"], {})
        self.assert_raises(InvalidFields, [10], Form, [*ten(), "f0"], {})

    def test_rules_that_are_no_dict_of_names(self):
        for value in [None, True, 0, 1, "", "ab", b"", [], (), [("sum", ADDING)], {"sum"}, ADDING, BILL, Odd(), EqualToAll()]:
            self.assert_raises(InvalidRules, [None], Form, FIELDS, value)
        for key in ["", "A", "1a", "abcdefghi", "a_b", "a b", b"a", None, True, 1, ("a",), (), 0]:
            self.assert_raises(InvalidRules, [None], Form, FIELDS, {key: ADDING})
            self.assert_raises(InvalidRules, [None], Form, FIELDS, {"sum": ADDING, "a": None, key: ADDING})
        self.assert_raises(InvalidRules, [None], Form.of, "net", **{"A": ADDING})

    def test_rules_with_a_wrong_value(self):
        for value in [*NO_RULES, ADDING.text(), repr(ADDING)]:
            self.assert_raises(InvalidRules, ["sum"], Form, FIELDS, {"sum": value})
            self.assert_raises(InvalidRules, ["m"], Form, FIELDS, {"z": None, "sum": ADDING, "m": value, "a": SHARING})

    def test_rules_with_fields_of_other_forms(self):
        self.assert_raises(InvalidRules, ["share"], Form, ["net", "tax", "gross"], {"sum": ADDING, "share": SHARING})
        self.assert_raises(InvalidRules, ["a"], Form, ["net", "tax", "gross"], {"sum": ADDING, "b": None, "a": SHARING})
        self.assert_raises(InvalidRules, ["a"], Form, ["net", "tax", "gross"], {"sum": ADDING, "b": SHARING, "a": None})
        self.assert_raises(InvalidRules, ["a10"], Form, ["a"], {"a9": Loose(["b"]), "a10": Loose(["b"]), "a1": Loose(["a"])})
        self.assert_raises(InvalidRules, ["p"], Form, ["a", "b"], {"p": Loose(["c", "a"], ways=["a"])})

    def test_too_many_fields(self):
        self.assert_raises(TooMany, ["fields", 10], Form, [*ten(), "more"], {})
        self.assert_raises(TooMany, ["fields", 10], Form, [f"f{at}" for at in range(300)], {})
        self.assert_raises(TooMany, ["fields", 10], Form.of, *ten(), "more")

    def test_too_many_rules(self):
        rules = {f"r{at}": Loose([f"f{at}"]) for at in range(7)}
        self.assert_raises(TooMany, ["rules", 6], Form, ten(), rules)
        self.assert_raises(TooMany, ["rules", 6], Form.of, *ten(), **rules)
        self.assert_raises(TooMany, ["rules", 6], Form, ["a"], {f"r{at}": Loose(["a"]) for at in range(300)})

    def test_the_first_error_is_raised(self):
        many = {f"r{at}": Loose(["a"]) for at in range(7)}
        more = [*ten(), "a"]
        self.assert_raises(InvalidFields, [11], Form, [*more, "a"], None)
        self.assert_raises(InvalidFields, [None], Form, [], {"sum": None})
        self.assert_raises(InvalidRules, [None], Form, more, {**many, "A": None})
        self.assert_raises(InvalidRules, ["r7"], Form, more, {**many, "r7": Loose(["b"])})
        self.assert_raises(TooMany, ["fields", 10], Form, more, many)
        self.assert_raises(TooMany, ["rules", 6], Form, ["a"], many)
        del many["r0"]
        self.assert_raises(TooMany, ["fields", 10], Form, more, many)
        self.assert_raises(Barred, [("r1", "r2")], Form, ["a"], many)

    def test_barred_by_the_first_set(self):
        both, one = Loose(["a", "b"]), Loose(["a", "b"], ways=["a"])
        self.assert_raises(Barred, [("p", "q")], Form, ["a", "b"], {"q": both, "p": both})
        self.assert_raises(Barred, [("p", "q")], Form.of, "a", "b", p=one, q=Loose(["b", "a"], ways=["b"]))
        # Sets of two rules stand ahead of sets of three, whatever their names are.
        self.assert_raises(Barred, [("q", "r")], Form.of, "a", "b", "c", p=Loose(["a", "c"]), q=both, r=both)
        ring = {"p": Loose(["a", "b"]), "q": Loose(["b", "c"]), "r": Loose(["c", "a"])}
        self.assert_raises(Barred, [("p", "q", "r")], Form, ["a", "b", "c"], ring)
        self.assert_raises(Barred, [("a10", "a9")], Form.of, "a", a9=Loose(["a"]), a10=Loose(["a"]))


class TestAllChoices(Case):
    def assert_barred_or_not(self, parts):
        barred = 0
        for fields, rules in parts:
            model = Model(fields, {name: (rule.fields, rule.ways) for name, rule in rules.items()})
            if model.plans:
                self.assert_same(Form(fields, rules).fields, fields)
            else:
                barred += 1
                first = next(names for names in model.sets() if not model.private(names))
                self.assert_raises(Barred, [first], Form, fields, rules)
                self.assert_raises(Barred, [first], Form.of, *fields, **rules)
        return barred

    def test_all_small_forms(self):
        self.assertGreater(self.assert_barred_or_not(small_parts()), 100)

    def test_forms_of_all_kinds(self):
        self.assertGreater(self.assert_barred_or_not(any_parts(500, 1)), 100)
        self.assertGreater(self.assert_barred_or_not(any_parts(200, 2, 5, 5)), 50)

    def test_kept_behind_rows(self):
        for form in [*small_forms(), *any_forms(60, 3, 4, 3)]:
            model = model_of(form)
            for row in model.rows():
                self.assert_same(form(row), model.kept(row))
                self.assert_same(form([*reversed(row), *row]), model.kept(row))


class TestRow(Case):
    def test_kept_behind_a_row(self):
        self.assert_same([BILL(["net", "gross"]), BILL([]), BILL(())], [("net", "gross"), ("rate", "net"), ("rate", "net")])
        self.assert_same(BILL(row=("net", "gross", "rate")), ("rate", "net"))
        self.assert_same(BILL(["gross", "net"] * 150), ("net", "gross"))

    def test_rows_that_are_no_lists_of_fields(self):
        for value in [*NO_LISTS, Odd(), EqualToAll()]:
            self.assert_raises(InvalidRow, [None], BILL, value)
        for value in [*NO_NAMES, "sum"]:
            self.assert_raises(InvalidRow, [0], BILL, [value])
            self.assert_raises(InvalidRow, [2], BILL, ("net", "net", value, None))

    def test_the_row_stays(self):
        row = ["net", "gross", "net"]
        BILL(row)
        self.assert_same(row, ["net", "gross", "net"])


class TestPrivate(Case):
    def test_private_fields(self):
        self.assert_same(private(BILL, ["sum"]), ("net", "tax", "gross"))
        self.assert_same(private(BILL, ["share"]), ("rate", "net", "tax"))
        for names in [["share", "sum"], ["sum", "share"], ("share", "sum"), ("sum", "share")]:
            self.assert_same(private(BILL, names), ("rate", "gross"))
        self.assert_same(private(names=["sum"], form=BILL), ("net", "tax", "gross"))

    def test_only_ways_are_private(self):
        form = Form(["c", "b", "a"], {"p": Loose(["a", "b", "c"], ways=["a", "c"]), "q": Loose(["c", "b"], ways=["b"])})
        self.assert_same([private(form, ["p"]), private(form, ["q"]), private(form, ["p", "q"])], [("c", "a"), ("b",), ("a",)])

    def test_against_the_words(self):
        for form in [*small_forms(), *any_forms(150, 4)]:
            model = model_of(form)
            for names in model.sets():
                self.assert_same(private(form, names), model.private(names))
                self.assert_same(private(form, list(names)[::-1]), model.private(names))

    def test_wrong_sets(self):
        for value in [*NO_LISTS, [], (), Odd(), EqualToAll(), {"sum": 1}]:
            self.assert_raises(InvalidSet, [None], private, BILL, value)
        for value in [*NO_NAMES, "net", "su"]:
            self.assert_raises(InvalidSet, [0], private, BILL, [value])
            self.assert_raises(InvalidSet, [1], private, BILL, ("sum", value, "sum"))
        self.assert_raises(InvalidSet, [1], private, BILL, ["sum", "sum", "x"])
        self.assert_raises(InvalidSet, [2], private, BILL, ["sum", "share", "sum", None])
        self.assert_raises(InvalidSet, [0], private, Form(["a"], {}), ["a"])

    def test_the_set_stays(self):
        names = ["sum", "share"]
        private(BILL, names)
        self.assert_same(names, ["sum", "share"])


class TestRuleSets(Case):
    def test_order(self):
        form = Form(ten(), {name: Loose([field]) for name, field in zip(["b", "a10", "a9"], ten())})
        self.assert_same(list(rule_sets(form)), [("a10",), ("a9",), ("b",), ("a10", "a9"), ("a10", "b"), ("a9", "b"),
                                                 ("a10", "a9", "b")])
        self.assert_same(list(rule_sets(form=BILL)), [("share",), ("sum",), ("share", "sum")])

    def test_against_the_words(self):
        for form in any_forms(100, 5):
            self.assert_same(list(rule_sets(form)), model_of(form).sets())

    def test_most_rules(self):
        form = Form(ten(), {f"r{at}": Loose([f"f{at}"]) for at in range(6)})
        found = list(rule_sets(form))
        self.assertEqual([len(found), len(set(found)), found[-1]], [63, 63, tuple(f"r{at}" for at in range(6))])
        self.assertEqual(found, sorted(found, key=lambda names: (len(names), names)))

    def test_two_generators_by_turns(self):
        one, other = rule_sets(BILL), rule_sets(BILL)
        found = [next(one), next(other), next(one), next(one), next(other), next(other), next(one, None), next(other, None)]
        self.assert_same(found, [("share",), ("share",), ("sum",), ("share", "sum"), ("sum",), ("share", "sum"), None, None])

    def test_it_is_a_generator(self):
        found = rule_sets(BILL)
        self.assertIs(iter(found), found)
        self.assert_same(next(found), ("share",))


class TestFormed(Case):
    def test_the_small_forms_are_many(self):
        self.assertGreater(len(list(formed(small_parts()))), 200)
