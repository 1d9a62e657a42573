"""The examples of the document, word for word."""

import doctest
from pathlib import Path

from keptlast.amounts import Amount
from keptlast.forms import Form
from keptlast.peels import can_stay, plan_row
from keptlast.rows import thrown_out, worked_out
from keptlast.rules import Loose, Product, Rule, Total
from support import Case

README = Path(__file__).resolve().parent.parent / "README.md"
STAGE_1 = """
>>> from keptlast.amounts import Amount
>>> from keptlast.rules import Product, Rule, Total
>>> [Amount(6, -4), 2 * Amount(1, 3) - 1, str(Amount(7, 2).over(7)), Amount(1, 3) < 1]
[Amount(-3, 2), Amount(-1, 3), '1/2', True]
>>> [Amount(-7, 2) // 2, Amount(-7, 2) % 2, 1 // Amount(2, 7), Amount(2, 3) ** 3, Amount(-1, 3).rounded(2)]
[-2, Amount(1, 2), 3, Amount(8, 27), '-0.34']
>>> adding, sharing = Total({"net": 1, "tax": 1, "gross": -1}), Product(["net", "rate"], ["tax"])
>>> [adding.text(), sharing.text(), Product(["a"], ["b"], 2, ways=["b"]).text(), Total({"a": -2}, 5).text()]
['sum -gross + net + tax = 0', 'product net rate = 1 tax', 'product a = 2 b by b', 'sum -2 a = 5']
>>> [sharing.worked_out("rate", {"net": 100, "tax": 20}), adding.worked_out("gross", {"net": 100, "tax": 20})]
[Amount(1, 5), Amount(120, 1)]
>>> [Rule.read("product 1 = 3 a").left, Rule.read("sum a + 2 b = 7/2 by b").ways, Product(["b", "a"], [], 5).text()]
[(), ('b',), 'product a b = 5']
"""
STAGE_2 = """
>>> from keptlast.forms import Form, private
>>> bill = Form(["rate", "net", "tax", "gross"], {"sum": adding, "share": sharing})
>>> [bill == Form.of("rate", "net", "tax", "gross", share=sharing, sum=adding), bill.names(), bill.rules_of("tax")]
[True, ['share', 'sum'], ('share', 'sum')]
>>> [private(bill, ["sum"]), private(bill, ["share", "sum"]), bill(["net", "gross"]), bill([])]
[('net', 'tax', 'gross'), ('rate', 'gross'), ('net', 'gross'), ('rate', 'net')]
>>> from keptlast.drafts import Draft
>>> draft = Draft(bill)
>>> draft["share"] = Product(["net", "rate"], ["tax"], ways=["tax"])
>>> [draft.made() <= bill, bill <= draft.made(), draft.undo(), draft.made() == bill]
[True, False, None, True]
"""
STAGE_3 = """
>>> from keptlast.peels import count_full, plan_of, plan_row
>>> from keptlast.clashes import clash_rules, clashes
>>> [list(clashes(bill)), clash_rules(bill, ["gross", "rate"]), count_full(bill)]
[[('rate', 'gross'), ('rate', 'net', 'tax'), ('net', 'tax', 'gross')], ('share', 'sum'), 5]
>>> [plan_of(bill, ["net", "gross"]), plan_row(bill, ["net", "gross"]), plan_of(bill, ["rate", "gross"])]
[{'share': 'rate', 'sum': 'tax'}, [('sum', 'tax'), ('share', 'rate')], None]
"""
STAGE_4 = """
>>> from keptlast.rows import comes_in, kept_along, order_behind, thrown_out
>>> [order_behind(bill, ["net", "gross"]), list(kept_along(bill, ["net", "gross", "rate"]))]
[['gross', 'net', 'rate', 'tax'], [('rate', 'net'), ('rate', 'net'), ('net', 'gross'), ('rate', 'net')]]
>>> [thrown_out(bill, ["net", "gross"], "rate"), comes_in(bill, ["net", "gross"], "rate")]
[('gross',), ('rate',)]
"""
STAGE_5 = """
>>> from keptlast.pairs import are_unions, loss, parting
>>> from keptlast.rules import Loose
>>> pair = Form(["a", "b", "c"], {"p": Loose(["a", "b"])})
>>> three = Form(["a", "b", "c"], {"q": Loose(["a", "b", "c"])})
>>> [pair <= three, three <= pair, parting(pair, three), loss(pair, three), are_unions(pair, three)]
[True, False, [], [], False]
"""
STAGE_6 = """
>>> from keptlast.exchange import is_one_for_one, most_out, rivals, sure_last
>>> from keptlast.webs import count_trees, ends
>>> [sure_last(bill), is_one_for_one(bill), most_out(bill), rivals(bill, "rate")]
[1, True, 1, ('net', 'tax', 'gross')]
>>> [ends(bill)["net"], ends(bill)["gross"], count_trees(bill)]
[('share', 'sum'), ('', 'sum'), 5]
"""
STAGE_7 = """
>>> from keptlast.known import lost, possible, sure
>>> facts = [("gross", "rate"), ("net", "tax")]
>>> [possible(bill, facts), sure(bill, facts), lost(bill, facts)]
[[('net', 'tax'), ('net', 'gross')], ('net',), ('rate',)]
"""
STAGE_8 = """
>>> from keptlast.sheets import Sheet
>>> from keptlast.gains import gains, hangs_on
>>> sheet = Sheet(bill, {"rate": Amount(1, 5), "net": 100})
>>> [str(sheet["tax"]), str(sheet["gross"]), sheet.edit("gross", 240), str(sheet["tax"]), str(sheet["rate"])]
['20', '120', ('rate',), '140', '7/5']
>>> [sheet.changes, sheet.table()[0], sheet.table()[1]]
[1, 'gross    *          240', 'rate                7/5']
>>> [sheet.kept, sheet.order, hangs_on(bill, ["gross"], "rate")]
[('net', 'gross'), ('gross', 'rate', 'net', 'tax'), ('net', 'gross')]
>>> gains(Form(["net", "tax", "gross"], {"sum": adding}), [])
{'gross': (Amount(0, 1), {'net': Amount(1, 1), 'tax': Amount(1, 1)})}
"""
STAGE_9 = """
>>> from keptlast.judge import certificate_of, is_certificate
>>> from keptlast.desk import Desk
>>> [certificate_of(("cannot stay", bill, ["rate", "gross"])), is_certificate(("unlike", pair, three), [])]
[('share', 'sum'), True]
>>> Desk(sheet).do_all("show rate", "set rate = 1/4", "plan", "stay rate gross", "last", "undo", "kept")
['7/5', 'out gross', 'share tax, sum gross', 'no share sum', '1', 'undone', 'kept net gross']
"""


class TestExamples(Case):
    def assert_examples(self, text, many):
        told = []
        test = doctest.DocTestParser().get_doctest(text, {}, "examples", None, 0)
        result = doctest.DocTestRunner(verbose=False).run(test, out=told.append)
        self.assertEqual((result.attempted, result.failed), (many, 0), "".join(told))

    def test_stage_1(self):
        self.assert_examples(STAGE_1, 8)

    def test_stage_2(self):
        self.assert_examples(STAGE_1 + STAGE_2, 16)

    def test_stage_3(self):
        self.assert_examples(STAGE_1 + STAGE_2 + STAGE_3, 20)

    def test_stages_4_to_6(self):
        self.assert_examples(STAGE_1 + STAGE_2 + STAGE_3 + STAGE_4 + STAGE_5 + STAGE_6, 32)

    def test_stages_7_to_9(self):
        self.assert_examples(STAGE_1 + STAGE_2 + STAGE_3 + STAGE_4 + STAGE_5 + STAGE_6 + STAGE_7 + STAGE_8 + STAGE_9, 46)

    def test_words_of_the_overview(self):
        bill = Form(["rate", "net", "tax", "gross"], {
            "sum": Total({"net": 1, "tax": 1, "gross": -1}), "share": Product(["net", "rate"], ["tax"])})
        for name in bill.names():
            self.assert_same(bill[name].ways, bill[name].fields)
        self.assert_same([bill(["net", "gross"]), plan_row(bill, ["net", "gross"])],
                         [("net", "gross"), [("sum", "tax"), ("share", "rate")]])
        self.assert_same([bill(["net", "gross", "rate"]), can_stay(bill, ["gross", "rate"])], [("rate", "net"), False])
        self.assert_same([thrown_out(bill, ["net", "gross"], "rate"), worked_out(bill, ["net", "gross"])],
                         [("gross",), ("rate", "tax")])

    def test_readme(self):
        self.assert_examples(README.read_text(encoding="utf-8"), 59)

    def test_texts_of_point_13(self):
        adding = Total({"net": 1, "tax": 1, "gross": -1})
        self.assert_same(adding.text(), "sum -gross + net + tax = 0")
        sharing = Product(["net", "rate"], ["tax"], ways=["tax"])
        self.assert_same(sharing.text(), "product net rate = 1 tax by tax")
        self.assertEqual([Rule.read(adding.text()), Rule.read(sharing.text())], [adding, sharing])

    def test_words_of_the_interface(self):
        self.assert_same(repr(Amount(-7, 2)), "Amount(-7, 2)")
        self.assert_same([Amount(-1, 3).rounded(2), Amount(2).rounded(2), Amount(3).rounded(0)], ["-0.34", "2.00", "3"])
        self.assert_same(Amount(0) ** 0, Amount(1))
        self.assert_same(repr(Loose(["b", "a"])), "Rule('loose a b')")
