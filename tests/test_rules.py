"""Point [12] and the interface section keptlast/rules.py, without the texts."""

from fractions import Fraction
from itertools import product

from keptlast.amounts import Amount
from keptlast.errors import (DividedByZero, InvalidAmount, InvalidNumbers, InvalidSide, InvalidWays, InvalidWeights,
                             UnknownField)
from keptlast.rules import Loose, Product, Rule, Total
from support import Case, EqualToAll, Odd

LONG = 1234567890123456789012345678901234567890
NO_INTEGERS = [True, False, None, "1", b"1", [], (1,), {}, {1}, object(), Odd(), Amount(1)]
NO_LISTS = [None, True, 0, 1, "ab", "a", "", b"ab", {}, {"a": 1}, {"a"}, object(), Odd(), Amount(1)]
NO_NAMES = ["", "A", "aB", "1a", "abcdefghi", "a_b", "a b", " a", "a ", "a-", "a\n", b"a", None, True, 1, ["a"],
            ("a",), (), {}, {"a"}, Odd(), Amount(1)]
NAMES = ["a", "z", "a1", "a00", "by", "sum", "abcdefgh", "z9999999"]
NUMBERS = [Fraction(0), Fraction(1), Fraction(-2), Fraction(3, 7), Fraction(-LONG, 3)]


def amount(fraction):
    return Amount(fraction.numerator, fraction.denominator)


def each_numbers(fields):
    """Dicts from the fields to fractions, and the same as NUMBERS."""
    for values in product(NUMBERS, repeat=len(fields)):
        fractions = dict(zip(fields, values))
        numbers = {field: one.numerator if one.denominator == 1 else amount(one) for field, one in fractions.items()}
        yield fractions, numbers


class TestRule(Case):
    def test_all_rules_are_rules(self):
        for rule in [Total({"a": 1}), Product(["a"]), Loose(["a"])]:
            self.assertIsInstance(rule, Rule)

    def test_each_class_is_a_rule_and_no_other_one(self):
        for cls in [Total, Product, Loose]:
            self.assertEqual(cls.__bases__, (Rule,))

    def test_methods_stand_in_the_classes_themselves(self):
        names = ["fields", "ways", "is_true", "text", "__eq__", "__repr__"]
        more = {Total: ["weights", "total", "worked_out"], Product: ["left", "right", "factor", "worked_out"], Loose: []}
        for cls in more:
            for name in names + more[cls]:
                self.assertIn(name, vars(cls))
        self.assertFalse(hasattr(Loose, "worked_out"))


class TestTotal(Case):
    def test_properties(self):
        rule = Total({"net": 1, "tax": 1, "gross": -1})
        self.assert_same(rule.fields, ("gross", "net", "tax"))
        self.assert_same(rule.ways, ("gross", "net", "tax"))
        self.assert_same(rule.weights, {"gross": -1, "net": 1, "tax": 1})
        self.assert_same(rule.total, Amount(0))

    def test_properties_if_all_is_passed(self):
        rule = Total({"b": LONG, "a": -3}, Amount(7, -2), ways=("b",))
        self.assert_same([rule.fields, rule.ways], [("a", "b"), ("b",)])
        self.assert_same([rule.weights, rule.total], [{"a": -3, "b": LONG}, Amount(-7, 2)])
        self.assert_same(Total({"b": 1, "a": 1, "c": 1}, ways=["c", "a"]).ways, ("a", "c"))

    def test_by_names(self):
        rule = Total(ways=["a"], total=5, weights={"a": 1, "b": 2})
        self.assertEqual(rule, Total({"a": 1, "b": 2}, 5, ways=["a"]))
        self.assert_same(rule.total, Amount(5))

    def test_ways_by_name_only(self):
        with self.assertRaises(TypeError):
            Total({"a": 1}, 0, ["a"])

    def test_all_names_are_taken(self):
        self.assert_same(Total({name: 1 for name in NAMES}).fields, tuple(sorted(NAMES)))

    def test_copies(self):
        weights, ways = {"a": 1, "b": 2}, ["a"]
        rule = Total(weights, ways=ways)
        weights["c"] = 3
        weights["a"] = 9
        ways.append("b")
        rule.weights["a"] = 7
        rule.weights.clear()
        self.assert_same([rule.weights, rule.fields, rule.ways], [{"a": 1, "b": 2}, ("a", "b"), ("a",)])
        self.assertIsNot(rule.weights, rule.weights)

    def test_nothing_passed_is_changed(self):
        weights, ways, numbers = {"b": 2, "a": 1}, ["b", "a"], {"c": 1, "b": 2, "a": 3}
        rule = Total(weights, ways=ways)
        rule.is_true(numbers)
        rule.worked_out("a", numbers)
        self.assert_same([weights, ways, numbers], [{"b": 2, "a": 1}, ["b", "a"], {"c": 1, "b": 2, "a": 3}])

    def test_is_true(self):
        weights = {"a": 3, "b": -2}
        for total in [Fraction(0), Fraction(-5, 7), Fraction(6)]:
            rule = Total(weights, amount(total))
            for fractions, numbers in each_numbers(["b", "a"]):
                expected = sum(weights[field] * fractions[field] for field in weights) == total
                self.assert_same(rule.is_true(numbers), expected)

    def test_true_with_integers_and_amounts(self):
        rule = Total({"a": 2, "b": -1}, 5)
        self.assert_same(rule.is_true({"a": Amount(7, 2), "b": 2}), True)
        self.assert_same(rule.is_true(numbers={"a": 3, "b": Amount(2)}), False)

    def test_worked_out_by_every_way(self):
        weights = {"a": 3, "b": -2, "c": 1}
        for total, field in product([Fraction(0), Fraction(-5, 7)], weights):
            rule = Total(weights, amount(total))
            others = [other for other in weights if other != field]
            for fractions, numbers in each_numbers(others):
                rest = total - sum(weights[other] * fractions[other] for other in others)
                found = rule.worked_out(field, numbers)
                self.assert_same(found, amount(rest / weights[field]))
                self.assert_same(rule.is_true({**numbers, field: found}), True)

    def test_one_field(self):
        self.assert_same(Total({"a": -2}, 5).worked_out("a", {}), Amount(-5, 2))
        self.assert_same(Total({"a": -2}, 5).worked_out(numbers={}, field="a"), Amount(-5, 2))

    def test_wrong_weights(self):
        for value in [None, True, 1, "a", [], ["a"], [("a", 1)], ("a",), {"a"}, Odd(), Amount(1), {}]:
            with self.subTest(value=value):
                self.assert_raises(InvalidWeights, [None], Total, value)
        for value in NO_NAMES:
            if getattr(value, "__hash__", None) is not None:
                with self.subTest(value=value):
                    self.assert_raises(InvalidWeights, [None], Total, {"a": 1, value: 1})
                    self.assert_raises(InvalidWeights, [None], Total, {"a": 0, value: 1})
        for value in NO_INTEGERS + [0]:
            with self.subTest(value=value):
                self.assert_raises(InvalidWeights, ["b"], Total, {"c": 0, "a": 1, "b": value})

    def test_wrong_total(self):
        for value in NO_INTEGERS[:-1]:
            with self.subTest(value=value):
                self.assert_raises(InvalidAmount, [value], Total, {"a": 1}, value)
                self.assert_raises(InvalidAmount, [value], Total, {"a": 1}, total=value, ways=[])

    def test_first_error_first(self):
        self.assert_raises(InvalidWeights, [None], Total, {}, "no", ways=[])
        self.assert_raises(InvalidWeights, ["a"], Total, {"a": 0}, "no", ways=[])
        self.assert_raises(InvalidAmount, ["no"], Total, {"a": 1}, "no", ways=[])


class TestProduct(Case):
    def test_properties(self):
        rule = Product(["net", "rate"], ["tax"])
        self.assert_same([rule.left, rule.right, rule.factor], [("net", "rate"), ("tax",), Amount(1)])
        self.assert_same([rule.fields, rule.ways], [("net", "rate", "tax"), ("net", "rate", "tax")])

    def test_properties_if_all_is_passed(self):
        rule = Product(("z", "b"), ["c", "a"], Amount(-7, 2), ways=["z", "a"])
        self.assert_same([rule.left, rule.right, rule.factor], [("b", "z"), ("a", "c"), Amount(-7, 2)])
        self.assert_same([rule.fields, rule.ways], [("a", "b", "c", "z"), ("a", "z")])

    def test_defaults(self):
        rule = Product(["b", "a"])
        self.assert_same([rule.left, rule.right, rule.factor, rule.ways], [("a", "b"), (), Amount(1), ("a", "b")])

    def test_one_side_may_be_empty(self):
        self.assert_same([Product([], ["a"]).left, Product((), ("a",), 3).fields], [(), ("a",)])
        self.assert_same([Product(["a"], [], 3).right, Product(("a",), ()).fields], [(), ("a",)])

    def test_by_names(self):
        rule = Product(ways=("c",), factor=LONG, right=["c"], left=["b"])
        self.assertEqual(rule, Product(["b"], ["c"], LONG, ways=["c"]))
        self.assert_same(rule.factor, Amount(LONG))

    def test_ways_by_name_only(self):
        with self.assertRaises(TypeError):
            Product(["a"], [], 1, ["a"])

    def test_copies(self):
        left, right, ways = ["a"], ["b"], ["b"]
        rule = Product(left, right, ways=ways)
        left.append("c")
        right.clear()
        ways[0] = "a"
        self.assert_same([rule.left, rule.right, rule.fields, rule.ways], [("a",), ("b",), ("a", "b"), ("b",)])

    def test_nothing_passed_is_changed(self):
        left, right, ways, numbers = ["d", "b"], ["c", "a"], ["d", "a"], {"d": 1, "c": 2, "b": 3, "a": 4}
        rule = Product(left, right, ways=ways)
        rule.is_true(numbers)
        rule.worked_out("a", numbers)
        self.assert_same([left, right, ways], [["d", "b"], ["c", "a"], ["d", "a"]])
        self.assert_same(numbers, {"d": 1, "c": 2, "b": 3, "a": 4})

    def test_is_true(self):
        for factor in [Fraction(1), Fraction(-3, 7)]:
            rule = Product(["a", "b"], ["c"], amount(factor))
            for fractions, numbers in each_numbers(["a", "b", "c"]):
                expected = fractions["a"] * fractions["b"] == factor * fractions["c"]
                self.assert_same(rule.is_true(numbers), expected)

    def test_is_true_with_an_empty_side(self):
        self.assert_same([Product([], ["a", "b"], 2).is_true({"a": 1, "b": Amount(1, 2)}),
                          Product([], ["a", "b"], 2).is_true({"a": 1, "b": 2}),
                          Product(["a", "b"], (), 6).is_true({"a": -2, "b": -3}),
                          Product(["a", "b"], (), 6).is_true(numbers={"a": 0, "b": -3})], [True, False, True, False])

    def test_worked_out_by_every_way(self):
        left, right = ["a", "b"], ["c", "d"]
        for factor, field in product([Fraction(1), Fraction(-3, 7)], left + right):
            rule = Product(left, right, amount(factor))
            others = [other for other in left + right if other != field]
            for fractions, numbers in each_numbers(others):
                sides = {"left": Fraction(1), "right": factor}
                for other in others:
                    sides["left" if other in left else "right"] *= fractions[other]
                own, far = ("left", "right") if field in left else ("right", "left")
                if sides[own] == 0:
                    self.assert_raises(DividedByZero, [None], rule.worked_out, field, numbers)
                else:
                    found = rule.worked_out(field, numbers)
                    self.assert_same(found, amount(sides[far] / sides[own]))
                    self.assert_same(rule.is_true({**numbers, field: found}), True)

    def test_zero_divided_by_zero(self):
        rule = Product(["a", "b"], ["c", "d"], 5)
        self.assert_raises(DividedByZero, [None], rule.worked_out, "a", {"b": 0, "c": 0, "d": 1})
        self.assert_raises(DividedByZero, [None], rule.worked_out, "d", {"a": 0, "b": 1, "c": Amount(0)})
        self.assert_raises(DividedByZero, [None], rule.worked_out, "a", {"b": 0, "c": 1, "d": 1})
        self.assert_same(rule.worked_out("a", {"b": 2, "c": 0, "d": 1}), Amount(0))

    def test_one_field(self):
        self.assert_same([Product(["a"], [], 5).worked_out("a", {}), Product([], ["a"], 5).worked_out("a", {})],
                         [Amount(5), Amount(1, 5)])

    def test_wrong_sides(self):
        for value in NO_LISTS:
            with self.subTest(value=value):
                self.assert_raises(InvalidSide, ["left", None], Product, value, ["a"])
                self.assert_raises(InvalidSide, ["right", None], Product, ["a"], value)
        for value in NO_NAMES:
            with self.subTest(value=value):
                self.assert_raises(InvalidSide, ["left", 1], Product, ["a", value, 5], ["a"])
                self.assert_raises(InvalidSide, ["right", 2], Product, ["a"], ("b", "c", value, "b"))

    def test_names_that_stand_earlier(self):
        self.assert_raises(InvalidSide, ["left", 2], Product, ["a", "b", "a", 7])
        self.assert_raises(InvalidSide, ["right", 1], Product, ["a"], ["b", "b"])
        self.assert_raises(InvalidSide, ["right", 1], Product, ["c", "a"], ["b", "a", "b"])
        self.assert_raises(InvalidSide, ["right", 0], Product, ["c", "a"], ["c"])

    def test_both_sides_empty(self):
        self.assert_raises(InvalidSide, ["left", None], Product, [])
        self.assert_raises(InvalidSide, ["left", None], Product, (), [], 0, ways=[])

    def test_wrong_factor(self):
        for value in NO_INTEGERS[:-1] + [0, Amount(0)]:
            with self.subTest(value=value):
                self.assert_raises(InvalidAmount, [value], Product, ["a"], [], value)
                self.assert_raises(InvalidAmount, [value], Product, ["a"], factor=value, ways=[])

    def test_first_error_first(self):
        self.assert_raises(InvalidSide, ["left", 0], Product, [1], None, 0, ways=[])
        self.assert_raises(InvalidSide, ["right", None], Product, [], None, 0, ways=[])
        self.assert_raises(InvalidSide, ["right", 0], Product, [], ["A"], 0, ways=[])
        self.assert_raises(InvalidAmount, [0], Product, [], ["a"], 0, ways=[])


class TestLoose(Case):
    def test_properties(self):
        self.assert_same([Loose(["b", "a"]).fields, Loose(("b", "a")).ways], [("a", "b"), ("a", "b")])
        rule = Loose(ways=["c", "a"], fields=["c", "b", "a"])
        self.assert_same([rule.fields, rule.ways], [("a", "b", "c"), ("a", "c")])

    def test_ways_by_name_only(self):
        with self.assertRaises(TypeError):
            Loose(["a"], ["a"])

    def test_copies(self):
        fields, ways = ["b", "a"], ["b"]
        rule = Loose(fields, ways=ways)
        fields.append("c")
        ways.append("a")
        self.assert_same([rule.fields, rule.ways, fields, ways], [("a", "b"), ("b",), ["b", "a", "c"], ["b", "a"]])

    def test_always_true(self):
        for _, numbers in each_numbers(["a", "b"]):
            self.assert_same(Loose(["a", "b"]).is_true(numbers), True)

    def test_wrong_fields(self):
        for value in NO_LISTS + [[], ()]:
            with self.subTest(value=value):
                self.assert_raises(InvalidSide, ["fields", None], Loose, value)
                self.assert_raises(InvalidSide, ["fields", None], Loose, value, ways=[])
        for value in NO_NAMES:
            with self.subTest(value=value):
                self.assert_raises(InvalidSide, ["fields", 1], Loose, ["a", value, 5], ways=[])
        self.assert_raises(InvalidSide, ["fields", 2], Loose, ("a", "b", "a"))


MAKERS = [
    lambda ways: Total({"b": 1, "a": 2, "c": -1}, ways=ways),
    lambda ways: Product(["b", "a"], ["c"], ways=ways),
    lambda ways: Product([], ["c", "b", "a"], ways=ways),
    lambda ways: Loose(["c", "b", "a"], ways=ways),
]


class TestAllKinds(Case):
    def test_no_list_of_ways(self):
        for make, value in product(MAKERS, NO_LISTS[1:] + [[], ()]):
            with self.subTest(value=value):
                self.assert_raises(InvalidWays, [None], make, value)

    def test_wrong_ways(self):
        for make, value in product(MAKERS, NO_NAMES + ["d", "aa", "ab", "by"]):
            with self.subTest(value=value):
                self.assert_raises(InvalidWays, [0], make, [value])
                self.assert_raises(InvalidWays, [1], make, ("a", value, "a"))

    def test_ways_that_stand_earlier(self):
        for make in MAKERS:
            self.assert_raises(InvalidWays, [2], make, ["c", "a", "c", "a", 1])

    def test_all_fields_as_ways(self):
        for make in MAKERS:
            self.assert_same(make(["c", "a", "b"]).ways, ("a", "b", "c"))
            self.assertEqual(make(["c", "a", "b"]), make(None))
            self.assertEqual(make(ways=("c",)), make(["c"]))

    def test_numbers_may_have_further_names(self):
        for make in MAKERS:
            numbers = {"a": 1, "b": 1, "c": 3}
            more = {"z": "no number", 5: None, **numbers, None: []}
            self.assert_same(make(None).is_true(more), make(None).is_true(numbers))
            if hasattr(make(None), "worked_out"):
                self.assert_same(make(None).worked_out("c", more), make(None).worked_out("c", numbers))

    def test_no_dict_of_numbers(self):
        for make, value in product(MAKERS, [None, True, 1, "a", [], [("a", 1)], (), {"a", "b", "c"}, Odd()]):
            with self.subTest(value=value):
                rule = make(None)
                self.assert_raises(InvalidNumbers, [None], rule.is_true, value)
                if hasattr(rule, "worked_out"):
                    self.assert_raises(InvalidNumbers, [None], rule.worked_out, "a", value)

    def test_wrong_numbers(self):
        for make, value in product(MAKERS, NO_INTEGERS[:-1]):
            with self.subTest(value=value):
                rule = make(None)
                self.assert_raises(InvalidNumbers, ["a"], rule.is_true, {"c": value, "b": value, "a": value})
                self.assert_raises(InvalidNumbers, ["b"], rule.is_true, {"c": value, "a": 1, "b": value})
                self.assert_raises(InvalidNumbers, ["c"], rule.is_true, {"b": 0, "c": value, "a": 1})
                self.assert_raises(InvalidNumbers, ["b"], rule.is_true, {"c": value, "a": 1})
                if hasattr(rule, "worked_out"):
                    found = {"c": value, "b": value, "a": value}
                    self.assert_raises(InvalidNumbers, ["b"], rule.worked_out, "a", found)
                    self.assert_raises(InvalidNumbers, ["a"], rule.worked_out, "b", found)
                    self.assert_raises(InvalidNumbers, ["c"], rule.worked_out, "b", {"c": value, "a": 1})

    def test_missing_numbers(self):
        for make in MAKERS:
            rule = make(None)
            self.assert_raises(InvalidNumbers, ["a"], rule.is_true, {})
            self.assert_raises(InvalidNumbers, ["c"], rule.is_true, {"a": 1, "b": Amount(2), "d": 3})
            if hasattr(rule, "worked_out"):
                self.assert_raises(InvalidNumbers, ["b"], rule.worked_out, "a", {"a": 1})

    def test_number_of_the_field_itself_is_not_looked_at(self):
        rule = Total({"a": 2, "b": 1}, 5)
        for value in NO_INTEGERS:
            self.assert_same(rule.worked_out("a", {"a": value, "b": 1}), Amount(2))
        self.assert_same(Product(["a", "b"], [], 6).worked_out("a", {"a": 0, "b": 3}), Amount(2))

    def test_fields_that_are_no_ways(self):
        for make, value in product(MAKERS[:3], NO_NAMES + ["a", "d", "by"]):
            with self.subTest(value=value):
                rule = make(["b", "c"])
                self.assert_raises(UnknownField, [value], rule.worked_out, value, {"a": 1, "b": 1, "c": 1})
                self.assert_raises(UnknownField, [value], rule.worked_out, value, None)

    def test_what_calls_itself_equal_to_all_is_no_name(self):
        value = EqualToAll()
        self.assertIs(self.assert_raises(UnknownField, [value], Total({"a": 1}).worked_out, value, {}).value, value)
        for make in MAKERS:
            self.assert_raises(InvalidWays, [0], make, [value])
        self.assert_raises(InvalidSide, ["fields", 0], Loose, [value])

    def test_first_error_of_worked_out_first(self):
        rule = Product(["a", "b"], ["c"], ways=["a"])
        self.assert_raises(UnknownField, ["b"], rule.worked_out, "b", {"a": 0})
        self.assert_raises(InvalidNumbers, ["c"], rule.worked_out, "a", {"b": 0})


class TestEquality(Case):
    def test_equal_parts(self):
        pairs = [
            (Total({"a": 1, "b": 2}, 5, ways=["a"]), Total({"b": 2, "a": 1}, Amount(10, 2), ways=("a",))),
            (Total({"a": 1, "b": 2}), Total({"a": 1, "b": 2}, ways=["b", "a"])),
            (Product(["a", "b"], ["c"]), Product(("b", "a"), ("c",), Amount(1), ways=["c", "b", "a"])),
            (Loose(["a", "b"], ways=["b"]), Loose(("b", "a"), ways=("b",))),
        ]
        for one, other in pairs:
            self.assert_same([one == other, other == one, one != other], [True, True, False])

    def test_other_parts(self):
        rules = [
            Total({"a": 1, "b": 2}), Total({"a": 1, "b": 3}), Total({"a": 1, "c": 2}), Total({"a": 1}),
            Total({"a": 1, "b": 2}, 1), Total({"a": 1, "b": 2}, ways=["a"]), Total({"a": 1, "b": 2}, ways=["b"]),
            Product(["a", "b"]), Product(["a"], ["b"]), Product(["b"], ["a"]), Product([], ["a", "b"]),
            Product(["a", "b"], [], 2), Product(["a", "b"], ways=["a"]), Product(["a"]), Product(["a", "b", "c"]),
            Loose(["a", "b"]), Loose(["a"]), Loose(["a", "b"], ways=["a"]), Loose(["a", "b"], ways=["b"]),
            # Equal ways, whatever else is different.
            Total({"a": 1, "c": 2}, ways=["a"]), Total({"a": 2, "b": 2}, ways=["a"]), Loose(["a", "c"], ways=["a"]),
            Product(["a", "c"], ways=["a"]), Product(["a"], ["b"], ways=["a"]), Product(["a"], ["c"], ways=["a"]),
            Product(["b"], ["a"], ways=["a"]), Product(["c"], ["a"], ways=["a"]), Product(["a"], ways=["a"], factor=3),
        ]
        for at, one in enumerate(rules):
            for other_at, other in enumerate(rules):
                self.assert_same([one == other, one != other], [at == other_at, at != other_at])

    def test_other_kinds(self):
        for rule in [Total({"a": 1}), Product(["a"]), Loose(["a"])]:
            for value in NO_LISTS + [rule.text(), repr(rule), rule.fields]:
                self.assert_same([rule == value, value == rule, rule != value], [False, False, True])


class TestRepr(Case):
    def test_repr(self):
        self.assert_same(repr(Total({"net": 1, "gross": -1})), "Rule('sum -gross + net = 0')")
        self.assert_same(repr(Product(["a"], ["b"], 2, ways=["b"])), "Rule('product a = 2 b by b')")
        self.assert_same(repr(Loose(["b", "a"])), "Rule('loose a b')")


class TestManyParts(Case):
    def test_three_hundred_fields(self):
        fields = [f"f{at}" for at in range(300)]
        total = Total({field: at + 1 for at, field in enumerate(fields)}, LONG)
        numbers = {field: Amount(1, at + 1) for at, field in enumerate(fields)}
        self.assert_same(total.worked_out("f0", numbers), Amount(LONG - 299))
        sharing = Product(fields[:150], fields[150:], 2)
        self.assert_same(sharing.worked_out("f299", {field: -1 for field in fields}), Amount(-1, 2))
        self.assert_same(Loose(fields, ways=fields[::-1]).ways, tuple(sorted(fields)))
