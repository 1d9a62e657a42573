"""Point [13]: the texts of rules, and Rule.read."""

from itertools import chain, combinations, product

from keptlast.amounts import Amount
from keptlast.errors import InvalidText
from keptlast.rules import Loose, Product, Rule, Total
from support import Case, Odd

LONG = 1234567890123456789012345678901234567890
TEXTS = [
    (Total({"net": 1, "tax": 1, "gross": -1}), "sum -gross + net + tax = 0"),
    (Total({"a": 1}), "sum a = 0"),
    (Total({"a": -1}, -3), "sum -a = -3"),
    (Total({"a": -2}, 5), "sum -2 a = 5"),
    (Total({"a": 2}, 5), "sum 2 a = 5"),
    (Total({"b": 2, "a": 1}, Amount(7, 2), ways=["b"]), "sum a + 2 b = 7/2 by b"),
    (Total({"c": -1, "b": -10, "a": 11}, Amount(-7, 2), ways=["c", "a"]), "sum 11 a - 10 b - c = -7/2 by a c"),
    (Total({"a": 1, "b": 1}, ways=["b", "a"]), "sum a + b = 0"),
    (Total({"by": 1}), "sum by = 0"),
    (Total({"by": -3, "sum": 1, "loose": -1, "product": 2}, ways=["sum", "by"]),
     "sum -3 by - loose + 2 product + sum = 0 by by sum"),
    (Total({"b": 1, "by": 1}, ways=["by"]), "sum b + by = 0 by by"),
    (Total({"a": LONG, "b": -LONG}, Amount(-LONG, 7)), f"sum {LONG} a - {LONG} b = {-LONG}/7"),
    (Total({"a10": 1, "a9": 1, "a": 1}), "sum a + a10 + a9 = 0"),
    (Product(["net", "rate"], ["tax"], ways=["tax"]), "product net rate = 1 tax by tax"),
    (Product(["rate", "net"], ["tax"]), "product net rate = 1 tax"),
    (Product(["a"], ["b"], 2, ways=["b"]), "product a = 2 b by b"),
    (Product(["b", "a"], [], 5), "product a b = 5"),
    (Product([], ["a"], 3), "product 1 = 3 a"),
    (Product([], ["c", "b"], Amount(-7, 2), ways=["c"]), "product 1 = -7/2 b c by c"),
    (Product(["a"], [], -1), "product a = -1"),
    (Product(["a"], [], Amount(LONG, 11)), f"product a = {LONG}/11"),
    (Product(["by"]), "product by = 1"),
    (Product(["by", "c"], [], 3, ways=["by"]), "product by c = 3 by by"),
    (Product(["by"], ["c"], 3, ways=["by"]), "product by = 3 c by by"),
    (Product(["c"], ["by"], 3), "product c = 3 by"),
    (Product(["c"], ["by"], 3, ways=["by"]), "product c = 3 by by by"),
    (Product(["c"], ["by"], 3, ways=["c"]), "product c = 3 by by c"),
    (Product(["c"], ["a", "by", "z"], ways=["by", "z"]), "product c = 1 a by z by by z"),
    (Product(["product", "sum"], ["loose"], ways=["sum"]), "product product sum = 1 loose by sum"),
    (Loose(["b", "a"]), "loose a b"),
    (Loose(["a"]), "loose a"),
    (Loose(["b", "a", "c"], ways=["c", "a"]), "loose a b c by a c"),
    (Loose(["by"]), "loose by"),
    (Loose(["by", "a"]), "loose a by"),
    (Loose(["by", "c"]), "loose by c"),
    (Loose(["a", "b", "by", "c"]), "loose a b by c"),
    (Product(["a"], ["b", "by", "c"]), "product a = 1 b by c"),
    (Loose(["a", "by", "c"]), "loose a by c"),
    (Loose(["a", "by"], ways=["by"]), "loose a by by by"),
    (Loose(["a", "by"], ways=["a"]), "loose a by by a"),
    (Loose(["by", "c"], ways=["by"]), "loose by c by by"),
    (Loose(["a", "by", "c"], ways=["by", "c"]), "loose a by c by by c"),
    (Loose(["sum", "product", "loose"], ways=["loose"]), "loose loose product sum by loose"),
]
WRONG = [
    "", " ", "a", "sum", "sum ", "product", "product ", "loose", "loose ", "= 0", " = 0", "by", "by a",
    # The form of the terms.
    "sum = 0", "sum  = 0", "sum a", "sum a =", "sum a = ", "sum a =0", "sum a= 0", "sum a == 0", "sum a = 0 ", " sum a = 0",
    "sum  a = 0", "sum a  = 0", "sum a =  0", "sum +a = 0", "sum + a = 0", "sum - a = 0", "sum --a = 0", "sum a+b = 0",
    "sum a + + b = 0", "sum a +  b = 0", "sum a + -b = 0", "sum a + -2 b = 0", "sum a - -2 b = 0", "sum a + = 0",
    "sum a - = 0", "sum a b = 0", "sum 2 = 0", "sum -2 = 0", "sum a 2 = 0", "sum a + 2 = 0", "sum 2 2 a = 0", "sum 2a = 0",
    "sum a = 0 = 0", "Sum a = 0", "sum a = 0\n", "\nsum a = 0", "sum\na = 0", "sum a\n= 0", "total a = 0", "sum a = b",
    # Fields in another sequence, twice, or with other names.
    "sum b + a = 0", "sum a + a = 0", "sum a - a = 0", "sum 2 a + 3 a = 0", "sum A = 0", "sum a_ = 0", "sum abcdefghi = 0",
    "sum a9 + a10 = 0",
    # Unnecessary signs and zeros.
    "sum 1 a = 0", "sum -1 a = 0", "sum a + 1 b = 0", "sum 0 a = 0", "sum -0 a = 0", "sum a + 0 b = 0", "sum 02 a = 0",
    "sum 4/2 a = 0", "sum 7/2 a = 0", "sum +2 a = 0", "sum a = -0", "sum a = 00", "sum a = 01", "sum a = +1", "sum a = 2/1",
    "sum a = 4/2", "sum a = 1/0", "sum a = 1.5", "sum a = 1/-2",
    # The ways.
    "sum a = 0 by", "sum a = 0 by ", "sum a = 0 by a", "sum a + b = 0 by a b", "sum a + b = 0 by c", "sum a + b = 0 by a a",
    "sum a + b = 0  by a", "sum a + b = 0 by  a", "sum a + b = 0 By a", "sum a + b = 0 a", "sum a + b by a = 0",
    "sum a + b + c = 0 by b a", "sum a + b = 0 by a by b", "sum by = 0 by by", "sum a + b = 0 by by", "sum a + b = 0 by a ",
    # Products.
    "product = 1", "product  = 1", "product 1 = 1", "product a", "product a =", "product a = ", "product a = b",
    "product a = 0", "product a = 0 b", "product a = -0", "product a = 01", "product a = 2/2", "product a = 1 ",
    "product a = 1  b", "product a  = 1 b", "product  a = 1 b", "product b a = 1", "product a = 1 c b", "product a a = 1",
    "product a = 1 b b", "product a = 1 a", "product 1 a = 1 b", "product 1 = 1 a by a", "product a = 1 b by a b",
    "product a = 1 c by b", "product a = 1 c by ", "product a = 1 by a", "product c = 3 by by", "product a = 1 b by b a",
    "product 2 = 3 a", "product a * b = 1 c", "product A = 1", "product a = 1 = 1", "product a = 1 b = 1", "product a = 1\n",
    "product a = 1 by b b by a", "product a = 1 1", "product  a b = 5", "product 1  = 3 a",
    # Loose rules.
    "loose  a", "loose a ", "loose b a", "loose a a", "loose A", "loose 1", "loose a by a", "loose b by a",
    "loose a b by a b", "loose a b by b a", "loose b a by c", "loose a  by a", "loose a b by  a", "loose by a", "loose by by",
    "loose by by by", "loose a b = 0", "loose a = 0", "loose a\n", "loose a, b", "Loose a", "loose a b by a by b",
    "loose a by by by by", "loose by by a",
]


def some_of(names):
    """All lists of at least one of the names, in their sequence."""
    return chain.from_iterable(combinations(names, many) for many in range(1, len(names) + 1))


class TestText(Case):
    def test_texts(self):
        for rule, text in TEXTS:
            with self.subTest(text=text):
                self.assert_same(rule.text(), text)

    def test_texts_are_read(self):
        for rule, text in TEXTS:
            with self.subTest(text=text):
                found = Rule.read(text)
                self.assertIs(type(found), type(rule))
                self.assertEqual(found, rule)
                self.assertEqual(Rule.read(text=text), rule)
                self.assert_same([found.fields, found.ways, found.text()], [rule.fields, rule.ways, text])

    def test_repr_has_the_text(self):
        for rule, text in TEXTS:
            self.assert_same(repr(rule), f"Rule({text!r})")

    def test_parts_of_what_is_read(self):
        rule = Rule.read("sum -2 a + b - 30 c = -7/2 by a c")
        self.assert_same([rule.weights, rule.total, rule.ways], [{"a": -2, "b": 1, "c": -30}, Amount(-7, 2), ("a", "c")])
        rule = Rule.read("product a b = -7/2 c by a")
        self.assert_same([rule.left, rule.right, rule.factor, rule.ways],
                         [("a", "b"), ("c",), Amount(-7, 2), ("a",)])

    def test_what_is_read_works(self):
        self.assert_same(Rule.read("sum a + 2 b = 7/2 by b").worked_out("b", {"a": 1}), Amount(5, 4))
        self.assert_same(Rule.read("product 1 = 3 a").worked_out("a", {}), Amount(1, 3))

    def test_many_fields(self):
        fields = [f"f{at}" for at in range(300)]
        for rule in [Total({field: -LONG for field in fields[:90]}, ways=fields[:80]),
                     Product(fields[:100], fields[100:200], LONG, ways=fields[50:150]), Loose(fields, ways=fields[:299])]:
            self.assertEqual(Rule.read(rule.text()), rule)


class TestWrongTexts(Case):
    def test_wrong_texts(self):
        for text in WRONG:
            with self.subTest(text=text):
                self.assert_raises(InvalidText, [1], Rule.read, text)

    def test_long_wrong_texts(self):
        for text in ["loose" + " by" * 1600, "sum a = 0" + " by" * 1600, "product a = 1" + " by" * 1600,
                     "sum " + "1" * 4980 + " a = x", "sum a = " + "0" * 4980, "sum a" + " + a" * 1200 + " = 0",
                     "product " + "a " * 2400 + "= 1"]:
            with self.subTest(text=text[:20]):
                self.assert_raises(InvalidText, [1], Rule.read, text)

    def test_no_strings(self):
        for value in [None, True, 1, b"loose a", ["loose a"], ("loose", "a"), {}, Loose(["a"]), Amount(1), Odd(), Rule]:
            with self.subTest(value=value):
                self.assert_raises(InvalidText, [1], Rule.read, value)

    def test_texts_with_one_change(self):
        texts = {text: rule for rule, text in TEXTS}
        for _, text in TEXTS:
            if len(text) < 60:
                for at in range(len(text) + 1):
                    self.assert_read_or_wrong(text[:at] + text[at + 1:], texts)
                    for sign in " -+=/012aby\nA":
                        self.assert_read_or_wrong(text[:at] + sign + text[at:], texts)
                        self.assert_read_or_wrong(text[:at] + sign + text[at + 1:], texts)

    def assert_read_or_wrong(self, text, texts):
        """What is read is written again just so; what is wrong is told so."""
        try:
            rule = Rule.read(text)
        except InvalidText as error:
            self.assert_same(vars(error), {"line": 1})
            self.assertNotIn(text, texts)
        else:
            self.assert_same(rule.text(), text)


class TestAllShortTexts(Case):
    """All rules over a few fields, one of them named `by`, and all short rows of words."""

    def assert_just_these(self, rules, kind, words, most):
        texts = {rule.text(): rule for rule in rules}
        self.assertEqual(len(texts), len(rules))
        for many in range(most + 1):
            for row in product(words, repeat=many):
                text = " ".join([kind, *row])
                if text in texts:
                    self.assertEqual(Rule.read(text), texts[text])
                else:
                    self.assert_raises(InvalidText, [1], Rule.read, text)

    def test_loose(self):
        rules = [Loose(fields, ways=ways) for fields in some_of(["a", "by", "c"]) for ways in some_of(fields)]
        self.assert_just_these(rules, "loose", ["a", "by", "c"], 7)

    def test_products(self):
        rules = []
        for sides in product(["left", "right", None], repeat=3):
            left = [name for name, side in zip(["a", "by", "c"], sides) if side == "left"]
            right = [name for name, side in zip(["a", "by", "c"], sides) if side == "right"]
            if left + right:
                rules += [Product(left, right, 1, ways=ways) for ways in some_of(sorted(left + right))]
        self.assert_just_these(rules, "product", ["a", "by", "c", "=", "1"], 6)

    def test_signs_of_totals(self):
        words = ["a", "by", "-a", "-by", "+", "-", "2", "-2", "="]
        self.assert_just_these(self.totals([0, 1, -1, 2, -2], [2, -2]), "sum", words, 5)

    def test_ways_of_totals(self):
        self.assert_just_these(self.totals([0, 1, 2], [2]), "sum", ["a", "by", "+", "2", "="], 7)

    def totals(self, weights, totals):
        rules = []
        for *some, total in product(weights, weights, totals):
            held = {name: weight for name, weight in zip(["a", "by"], some) if weight != 0}
            if held:
                rules += [Total(held, total, ways=ways) for ways in some_of(sorted(held))]
        return rules
