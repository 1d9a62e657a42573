"""Point [91] and the interface section keptlast/texts.py."""

from itertools import chain, permutations, product

from keptlast.amounts import Amount
from keptlast.errors import FormError, InvalidText
from keptlast.forms import Form
from keptlast.rules import Loose, Product, Rule, Total
from keptlast.texts import form_text, read_form
from models import any_forms, small_forms
from support import Case, EqualToAll, Odd
from test_clashes import LARGE
from test_forms import BILL, ten

BILL_TEXT = "field rate\nfield net\nfield tax\nfield gross\nrule share product net rate = 1 tax\nrule sum sum -gross + net + tax = 0\n"
ODD_NAMES = Form(["rule", "field", "sum", "product", "loose", "by"], {
    "by": Loose(["by", "loose"], ways=["by"]), "field": Loose(["by", "field"]), "loose": Product(["product", "rule"], ["by"], ways=["product"]),
    "product": Product([], ["sum", "by"], Amount(-1, 3)), "rule": Total({"sum": -1, "field": 12, "rule": 1}, Amount(1, 2), ways=["rule"])})
ODD_TEXT = """field rule
field field
field sum
field product
field loose
field by
rule by loose by loose by by
rule field loose by field
rule loose product product rule = 1 by by product
rule product product 1 = -1/3 by sum
rule rule sum 12 field + rule - sum = 1/2 by rule
"""


class TextCase(Case):
    def assert_wrong(self, line, text):
        self.assert_raises(InvalidText, [line], read_form, text)

    def assert_form(self, text, form):
        self.assert_same(form_text(form), text)
        self.assert_same(form_text(form=form), text)
        for found in [read_form(text), read_form(text=text)]:
            self.assertIs(type(found), Form)
            self.assertEqual(found, form)
            self.assert_same([found.fields, found.names()], [form.fields, form.names()])


class TestBothWays(TextCase):
    def test_the_bill(self):
        self.assert_form(BILL_TEXT, BILL)

    def test_without_rules(self):
        self.assert_form("field a\n", Form(["a"], {}))
        self.assert_form("field b\nfield a\n", Form(["b", "a"], {}))

    def test_names_that_are_words_of_the_texts(self):
        self.assert_form(ODD_TEXT, ODD_NAMES)
        self.assert_form("field field\nrule field loose field\n", Form(["field"], {"field": Loose(["field"])}))
        self.assert_form("field by\nfield loose\nrule loose loose by loose by by\n", Form(["by", "loose"], {
            "loose": Loose(["loose", "by"], ways=["by"])}))
        self.assert_form("field by\nfield loose\nrule rule loose by loose\n", Form(["by", "loose"], {"rule": Loose(["loose", "by"])}))
        self.assert_form("field sum\nrule sum sum sum = 0\n", Form(["sum"], {"sum": Total({"sum": 1})}))
        self.assert_form("field by\nrule a product by = 1\n", Form(["by"], {"a": Product(["by"])}))

    def test_all_kinds_of_forms(self):
        for form in [*small_forms(), *any_forms(300, 121, 10, 6), *LARGE]:
            lines = [f"field {field}" for field in form.fields]
            lines += [f"rule {name} {form[name].text()}" for name in sorted(form.rules())]
            self.assert_form("\n".join([*lines, ""]), form)
            # Each text of a form without its last lines is that of a form, as long as a field is left.
            for many in range(1, len(lines)):
                rules = {line.split(" ")[1]: Rule.read(line.split(" ", 2)[2]) for line in lines[len(form.fields):many]}
                self.assert_form("\n".join([*lines[:many], ""]), Form(form.fields[:many], rules))
            self.assert_wrong(len(lines), "\n".join(lines))

    def test_repeated_queries(self):
        self.assert_same([form_text(BILL), form_text(BILL)], [BILL_TEXT] * 2)
        self.assertEqual(read_form(BILL_TEXT), read_form(BILL_TEXT))


class TestWrongLines(TextCase):
    def test_no_string(self):
        for value in [None, True, 0, 1, b"field a\n", ["field a\n"], ("field a",), {}, [], BILL, Odd(), EqualToAll()]:
            self.assert_wrong(None, value)

    def test_the_empty_text_and_empty_lines(self):
        self.assert_wrong(1, "")
        self.assert_wrong(1, "\n")
        self.assert_wrong(1, "\n" + BILL_TEXT)
        self.assert_wrong(7, BILL_TEXT + "\n")
        self.assert_wrong(2, BILL_TEXT.replace("\n", "\n\n", 1))

    def test_a_last_line_without_its_line_feed(self):
        self.assert_wrong(6, BILL_TEXT[:-1])
        self.assert_wrong(7, BILL_TEXT + "field")
        self.assert_wrong(7, BILL_TEXT + " ")
        self.assert_wrong(1, "field a")
        self.assert_wrong(1, "x")
        self.assert_wrong(2, "field a\nfield b")
        self.assert_wrong(2, "field a\nrule p loose a")
        # An earlier line that is wrong counts.
        self.assert_wrong(2, "field a\nfield a\nfield b")
        self.assert_wrong(1, "x\nfield b")

    def test_each_sign_too_many_or_too_few(self):
        for text in [BILL_TEXT, ODD_TEXT]:
            right = 0
            for at in range(len(text)):
                line = text[:at].count("\n") + 1
                for sign in " x=-1\n/":
                    right += self.assert_like_the_parts(text[:at] + sign + text[at:], line)
                    right += self.assert_like_the_parts(text[:at] + sign + text[at + 1:], line)
                right += self.assert_like_the_parts(text[:at] + text[at + 1:], line)
            self.assertGreater(right, 20)

    def assert_like_the_parts(self, text, line):
        """The lines ahead are right; from this line on, the text is read line by line, and each part by its own rules."""
        lines = text.split("\n")
        fields, rules = [], {}
        for at, told in enumerate(lines[:-1]):
            words = told.split(" ")
            try:
                if len(words) == 2 and words[0] == "field" and not rules:
                    fields.append(words[1])
                else:
                    if words[0] != "rule" or len(words) < 3 or rules and words[1] <= max(rules):
                        raise InvalidText(0)
                    rules[words[1]] = Rule.read(" ".join(words[2:]))
                Form(fields, rules)
            except FormError:
                self.assertGreaterEqual(at + 1, line)
                self.assert_wrong(at + 1, text)
                return False
        if lines[-1]:
            self.assert_wrong(len(lines), text)
            return False
        self.assert_form(text, Form(fields, rules))
        return True

    def test_each_line_too_many_or_too_few(self):
        lines = BILL_TEXT.split("\n")[:-1]
        for at in range(len(lines)):
            self.assert_like_the_parts("\n".join([*lines[:at], *lines[at + 1:], ""]), 1)
            for more in ["field x", "field rate", "rule a loose net", "rule share loose net", "rule zz loose net", "field", "rule", "x"]:
                self.assert_like_the_parts("\n".join([*lines[:at], more, *lines[at:], ""]), at + 1)
        self.assert_wrong(4, BILL_TEXT.replace("field tax\n", ""))
        self.assert_wrong(6, BILL_TEXT.replace("field gross\n", "field x\n"))
        self.assert_wrong(5, BILL_TEXT.replace("field gross\n", "field gross\nfield gross\n"))
        self.assert_wrong(7, BILL_TEXT + BILL_TEXT)

    def test_lines_otherwise(self):
        for line in ["Field a", "field A", "field", "field ", "field  a", " field a", "field a ", "field a b", "fields a", "field abcdefghi",
                     "field 1", "field a\t", "rule p loose a", "sum a = 1", "a", "field,a", "field\ta", "field a\r"]:
            self.assert_wrong(1, line + "\nfield b\n")
            self.assert_wrong(1, line + "\n")
            self.assert_wrong(1, line)
        for line in ["rule", "rule p", "rule p ", "rule loose b", "rule p  loose b", "rule  p loose b", "rule p loose b ", "rule p loose",
                     "rule P loose b", "rule p loose x", "rule p loose b b", "rule p loose c b", "rule p loose b by c", "rule p loose b by b",
                     "rule p sum b = 0 ", "rule p sum 1 b = 0", "rule p sum b = 00", "rule p sum b + x = 0", "rule p product b = 0", "b",
                     "rule p product b x = 1", "rule abcdefghi loose b", "rule 1 loose b", "rules p loose b", "Rule p loose b",
                     "rule p Loose b", "field b", "field p loose b", "rule p rule p loose b", "rule p sum b + c = 1/1"]:
            self.assert_wrong(3, f"field b\nfield c\n{line}\nrule z loose b\n")
            self.assert_wrong(3, f"field b\nfield c\n{line}\n")

    def test_rules_that_are_not_sorted_or_stand_twice(self):
        fields = "field a\nfield b\nfield c\n"
        for one, other in permutations(["a", "b", "b1", "b10", "b9", "sum"], 2):
            text = f"{fields}rule {one} loose a\nrule {other} loose b\n"
            if one < other:
                self.assert_form(text, Form(["a", "b", "c"], {one: Loose(["a"]), other: Loose(["b"])}))
            else:
                self.assert_wrong(5, text)
        self.assert_wrong(5, f"{fields}rule p loose a\nrule p loose a\n")
        self.assert_wrong(6, f"{fields}rule a loose a\nrule q loose b\nrule b loose c\n")

    def test_fields_behind_rules(self):
        self.assert_wrong(3, "field a\nrule p loose a\nfield b\n")
        self.assert_wrong(2, "field a\nrule p loose a b\nfield b\n")

    def test_ten_and_eleven_fields(self):
        text = "".join(f"field {field}\n" for field in ten())
        self.assert_form(text, Form(ten(), {}))
        self.assert_wrong(11, text + "field x\n")
        self.assert_wrong(11, text + "field x\nfield x\n")
        self.assert_wrong(10, text.replace("f9", "f8") + "field x\n")
        self.assert_form(text + "rule p loose f9\n", Form(ten(), {"p": Loose(["f9"])}))

    def test_six_and_seven_rules(self):
        text = "".join(f"field {field}\n" for field in ten()) + "".join(f"rule r{at} loose f{at}\n" for at in range(6))
        self.assert_form(text, Form(ten(), {f"r{at}": Loose([f"f{at}"]) for at in range(6)}))
        self.assert_wrong(17, text + "rule r6 loose f6\n")
        self.assert_wrong(17, text + "rule r6 loose f6\nx\n")

    def test_rules_that_bar_the_form(self):
        self.assert_wrong(4, "field a\nfield b\nrule p loose a b by a\nrule q loose a b by a\n")
        self.assert_wrong(4, "field a\nfield b\nrule p loose a b\nrule q loose a b\nrule r loose a\n")
        self.assert_wrong(5, "field a\nfield b\nrule p loose a b\nrule q loose a\nrule r loose b\n")
        # The two rules on lines 4 and 5 bar the form; the third one does not change that.
        self.assert_wrong(5, "field a\nfield b\nfield c\nrule p loose a b\nrule q loose a b\nrule r loose c\n")

    def test_against_all_texts_of_forms(self):
        told = ["loose a", "loose a b", "loose b by b", "loose a b by a"]
        texts = set()
        for fields in [["a"], ["b"], ["a", "b"], ["b", "a"]]:
            for one, other in product([None, *told], repeat=2):
                try:
                    texts.add(form_text(Form(fields, {name: Rule.read(text) for name, text in [("p", one), ("q", other)] if text})))
                except FormError:
                    continue
        lines = ["field a\n", "field b\n", *[f"rule {name} {text}\n" for name in "pq" for text in told]]
        right = 0
        for chosen in chain(*[product(lines, repeat=size) for size in range(5)]):
            text = "".join(chosen)
            if text in texts:
                right += 1
                self.assert_same(form_text(read_form(text)), text)
            else:
                wrong = [at + 1 for at in range(len(chosen)) if not any(one.startswith("".join(chosen[:at + 1])) for one in texts)]
                self.assert_wrong([*wrong, len(chosen) + 1][0], text)
        self.assertEqual(right, len(texts))
