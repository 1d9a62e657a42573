"""Point [93] and the interface section keptlast/desk.py."""

import random
from itertools import permutations

from keptlast.amounts import Amount
from keptlast.desk import Desk
from keptlast.errors import (AmountError, Barred, CommandFailed, DividedByZero, FormError, InvalidLine, InvalidLot, InvalidName, InvalidRules,
                             InvalidText, LooseRule, MissingError, Never, NothingToUndo, Refused, StateError, TooMany,
                             UnknownField, UnknownRule)
from keptlast.exchange import sure_last
from keptlast.forms import Form
from keptlast.peels import bar_paper, plan_row
from keptlast.rules import Product, Rule, Total
from keptlast.sheets import Sheet
from models import NO_LISTS, lots_of
from papers import any_number, beginnings, told
from support import Case, EqualToAll, Odd
from test_forms import ADDING, BILL, FIELDS, SHARING, ten

LINES = ["set net = 5", "rule sum = sum net = 0", "drop sum", "undo", "show net", "kept", "plan", "stay net", "stay net tax", "last"]
# The field a can never stay.
NEVER = Form(["a", "b", "c"], {"p": Total({"a": 1}, 3), "q": Product(["b"], ["c"], 2)})


def bill():
    sheet = Sheet(BILL, {"rate": Amount(1, 5), "net": 100})
    sheet["gross"] = 240
    return sheet


class DeskCase(Case):
    def assert_refused(self, error, values, desk, line, cause=None):
        """The line raises the error, also as the third of several; the desk is as it was."""
        before = [told(desk.sheet()), desk.log()]
        raised = self.assert_raises(error, values, desk.do, line)
        self.assert_same([told(desk.sheet()), desk.log()], before)
        if cause is not None:
            self.assertIs(type(raised.__cause__), DividedByZero)
            self.assert_same(raised.__cause__.rule, cause)
        failed = self.assert_raises(CommandFailed, [2], desk.do_all, "kept", "last", line, None)
        self.assertIs(type(failed.__cause__), error)
        self.assert_same(list(vars(failed.__cause__).values()), values)
        self.assert_same([told(desk.sheet()), desk.log()], before)


class TestLines(DeskCase):
    def test_the_document(self):
        sheet = bill()
        lines = ["show rate", "set rate = 1/4", "plan", "stay rate gross", "last", "undo", "kept"]
        answers = ["7/5", "out gross", "share tax, sum gross", "no share sum", "1", "undone", "kept net gross"]
        self.assert_same(Desk(sheet).do_all(*lines), answers)
        desk = Desk(sheet=sheet)
        self.assert_same([desk.do(line) for line in lines], answers)
        self.assert_same(desk.do(line="kept"), "kept net gross")
        self.assert_same(desk.log(), ["set rate = 1/4", "undo"])

    def test_set(self):
        desk = Desk(bill())
        self.assert_same(desk.do_all("set gross = 100", "set gross = -7/3", "set tax = 0", "set rate = 2"), ["out -", "out -", "out net", "out gross"])
        self.assert_same([desk.sheet()["gross"], desk.sheet().order], [Amount(0), ("rate", "tax", "gross", "net")])
        self.assert_same(desk.do_all("undo", "show gross", "undo", "show gross"), ["undone", "-7/3", "undone", "-7/3"])

    def test_several_thrown_out(self):
        form = Form(["f0", "f1", "f2", "f3", "f4"], {
            "p": Total({"f1": 1, "f3": 1, "f4": 1}), "q": Total({"f0": 1, "f1": 1, "f2": 1}, ways=["f0", "f1"]),
            "r": Total({"f0": 1, "f2": 1, "f4": 1})})
        outs = set()
        # The field f3 can never stay.
        fields = ["f0", "f1", "f2", "f4"]
        for order in permutations(fields):
            sheet = Sheet(form, {one: at + 1 for at, one in enumerate(form([]))})
            sheet.edit_all([(one, 1) for one in order])
            for field in fields:
                lot = sheet.copy().edit(field, 7)
                self.assert_same(Desk(sheet).do(f"set {field} = 7"), listed("out", lot))
                outs.add(len(lot))
        self.assertEqual(outs, {0, 1, 2})

    def test_rule(self):
        desk = Desk(bill())
        self.assert_same(desk.do("rule share = product net rate = 1 tax by tax"), "kept rate net")
        self.assertEqual(desk.sheet().form, Form(FIELDS, {"sum": ADDING, "share": Product(["net", "rate"], ["tax"], ways=["tax"])}))
        self.assert_same(desk.do_all("rule more = sum net = 50", "show gross", "plan"),
                         ["kept rate", "120", "more net, share tax, sum gross"])
        self.assert_same(desk.sheet().form.names(), ["more", "share", "sum"])
        self.assert_same(desk.do_all("undo", "undo", "kept"), ["undone", "undone", "kept net gross"])
        self.assertEqual(desk.sheet().form, BILL)

    def test_drop(self):
        desk = Desk(bill())
        self.assert_same(desk.do_all("drop sum", "drop share", "kept", "plan", "last"),
                         ["kept rate net gross", "kept rate net tax gross", "kept rate net tax gross", "-", "4"])
        self.assertEqual(desk.sheet().form, Form(FIELDS, {}))

    def test_kept_of_none_and_plan_of_none(self):
        form = Form(["a"], {"p": Total({"a": 2}, 3)})
        desk = Desk(Sheet(form, {}))
        self.assert_same(desk.do_all("kept", "plan", "last", "stay a", "show a"), ["kept -", "p a", "0", "no p", "3/2"])
        self.assert_same(desk.do_all("drop p", "kept", "plan", "last", "stay a", "set a = 1"), ["kept a", "kept a", "-", "1", "yes", "out -"])
        self.assert_same(desk.do_all("rule x = sum a = 1", "kept", "undo", "undo", "undo", "kept"), ["kept -", "kept -", "undone", "undone", "undone", "kept -"])

    def test_stay(self):
        desk = Desk(bill())
        for lot in lots_of(FIELDS)[1:]:
            bar = bar_paper(BILL, lot)
            for given in [lot, lot[::-1]]:
                self.assert_same(desk.do("stay " + " ".join(given)), "yes" if bar is None else "no " + " ".join(bar))
        self.assert_same(desk.do_all("stay net", "stay gross rate", "stay net tax gross", "stay rate net tax"), ["yes", "no share sum", "no sum", "no share"])
        self.assert_same(desk.log(), [])

    def test_names_that_are_words_of_the_lines(self):
        form = Form(["set", "rule", "stay", "kept"], {"drop": Total({"set": 1, "rule": 1}), "rule": Total({"stay": 1, "kept": -1})})
        desk = Desk(Sheet(form, {"set": 1, "stay": 2}))
        self.assert_same(desk.do_all("show set", "set set = 5", "set rule = 6", "stay set rule", "stay stay", "show kept", "plan", "kept"),
                         ["1", "out -", "out set", "no drop", "yes", "2", "drop set, rule kept", "kept rule stay"])
        self.assert_same(desk.do_all("rule undo = sum set + stay = 1 by stay", "plan", "drop rule", "drop drop", "rule rule = sum rule = 3"),
                         ["kept rule", "drop set, undo stay, rule kept", "kept rule kept", "kept set rule kept", "kept set kept"])

    def test_answers_like_those_of_a_sheet(self):
        chance = random.Random(141)
        done = {}
        for form, numbers in beginnings(60, 142):
            sheet = Sheet(form, numbers)
            desk, log = Desk(sheet), []
            for _ in range(12):
                line, action = any_line(chance, sheet.form)
                twin = sheet.copy()
                try:
                    answer = action(twin)
                except (FormError, MissingError, StateError) as error:
                    self.assert_refused(type(error), list(vars(error).values()), desk, line)
                    continue
                before = told(sheet)
                sheet = twin
                self.assert_same(desk.do(line), answer)
                if line.split(" ")[0] in ("set", "rule", "drop", "undo"):
                    log.append(line)
                else:
                    self.assert_same(told(sheet), before)
                done[line.split(" ")[0]] = done.get(line.split(" ")[0], 0) + 1
                self.assert_same([told(desk.sheet()), desk.log()], [told(sheet), log])
        self.assertEqual(set(done), {line.split(" ")[0] for line in LINES})
        self.assertGreater(min(done.values()), 15)


class TestNoLines(DeskCase):
    def assert_no_line(self, value):
        desk = Desk(bill())
        desk.do("set net = 7")
        before = [told(desk.sheet()), desk.log()]
        self.assertIs(self.assert_raises(InvalidLine, [value], desk.do, value).value, value)
        failed = self.assert_raises(CommandFailed, [1], desk.do_all, "set net = 8", value, "x")
        self.assertIs(type(failed.__cause__), InvalidLine)
        self.assertIs(failed.__cause__.value, value)
        self.assert_same([told(desk.sheet()), desk.log()], before)

    def test_no_strings(self):
        for value in [*NO_LISTS, [], ["kept"], ("kept",), ["set", "net", "=", "5"], b"kept", Odd(), EqualToAll(), Desk]:
            self.assert_no_line(value)

    def test_unknown_words(self):
        for value in ["", " ", "a", "x", "Kept", "KEPT", "out", "undone", "yes", "no", "log", "sheet", "keep", "kep", "keptt", "set", "rule", "drop",
                      "show", "stay", "x net", "edit net = 5", "rules a = loose a", "-", "=", "kept=", "net = 5", "do kept"]:
            self.assert_no_line(value)

    def test_spaces_too_many_or_too_few(self):
        for line in LINES:
            self.assert_no_line(" " + line)
            if not line.startswith("rule"):
                self.assert_no_line(line + " ")
                self.assert_no_line(line + "  ")
            for at, sign in enumerate(line):
                # In the text of a rule, spaces may stand anywhere.
                if sign == " " and at < (line + " = ").index(" = ") + 3:
                    if not line.startswith("rule") or at != line.index(" = ") + 2:
                        self.assert_no_line(line[:at] + "  " + line[at + 1:])
                    if not line.startswith("stay") or at == 4:
                        self.assert_no_line(line[:at] + line[at + 1:])

    def test_words_too_many_or_too_few(self):
        for line in LINES:
            words = line.split(" ")
            if words[0] not in ("stay", "rule"):
                self.assert_no_line(line + " net")
                self.assert_no_line("net " + line)
            for at in range(len(words)):
                fewer = " ".join([*words[:at], *words[at + 1:]])
                if not (words[0] == "rule" and at > 2 or line == "stay net tax" and at > 0):
                    self.assert_no_line(fewer)

    def test_other_signs(self):
        for line in ["set net = 5", "rule sum = sum net = 0"]:
            for sign in ["==", ":=", "x", "-", "is"]:
                self.assert_no_line(line.replace("=", sign, 1))
            self.assert_no_line(line.replace(" = ", "=", 1))
            self.assert_no_line(line.replace(" = ", " ", 1))
        for value in ["set = 5", "set net = ", "set net =", "set net 5", "set net", "set =", "rule = loose a", "rule a = ", "rule a =", "rule a", "rule  = x",
                      "set  = 5", "stay ", "stay  net", "stay net  tax", "stay net ", "drop ", "show ", "drop a b", "show net tax", "undo 1", "last 2",
                      "plan net", "kept net", "set net = 5 6", "set net = = 5", "set net tax = 5"]:
            self.assert_no_line(value)

    def test_line_feeds(self):
        for line in LINES:
            for at in range(len(line) + 1):
                self.assert_no_line(line[:at] + "\n" + line[at:])
            for at, sign in enumerate(line):
                if sign == " ":
                    self.assert_no_line(line[:at] + "\n" + line[at + 1:])
        self.assert_no_line("\n")


class TestErrors(DeskCase):
    def test_texts(self):
        desk = Desk(bill())
        for number in ["x", "1.5", "+1", "01", "1/1", "2/4", "1/0", "-0", "--1", "1/-2", "/", "=", "1/", "-", "net", "1,0"]:
            for field in ["net", "x", "NET", "="]:
                self.assert_refused(InvalidText, [1], desk, f"set {field} = {number}")
        for text in ["x", " ", "  ", " sum net = 0", "sum net = 0 ", "sum net  = 0", "sum  net = 0", "sum net = 0 by", "loose net net", "loose",
                     "sum net + gross = 0", "product net = 0", "=", "Sum net = 0", "sum net = 00", "loose net by tax"]:
            for name in ["sum", "new", "A", "="]:
                self.assert_refused(InvalidText, [1], desk, f"rule {name} = {text}")

    def test_show_and_set(self):
        desk = Desk(bill())
        for value in ["x", "sum", "NET", "ne", "nett", "=", "-", "0"]:
            self.assert_refused(UnknownField, [value], desk, f"show {value}")
            self.assert_refused(UnknownField, [value], desk, f"set {value} = 5")

    def test_never_and_refused(self):
        desk = Desk(Sheet(NEVER, {"b": 4}))
        self.assert_refused(Never, [("p",)], desk, "set a = 3")
        desk = Desk(bill())
        self.assert_refused(Refused, ["net"], desk, "set net = 0", "share")

    def test_drop(self):
        desk = Desk(bill())
        for value in ["x", "net", "SUM", "su", "=", "-"]:
            self.assert_refused(UnknownRule, [value], desk, f"drop {value}")

    def test_drop_that_divides_by_zero(self):
        # Without q, b is no longer worked out; then p has to work it out from a and c, which are 0.
        form = Form(["a", "c", "b"], {"p": Product(["a", "b"], ["c"], ways=["b", "c"]), "q": Total({"b": 1}, 5, ways=["b"])})
        desk = Desk(Sheet(form, {"a": 0}))
        self.assert_same(desk.do_all("show b", "show c", "plan"), ["5", "0", "q b, p c"])
        self.assert_refused(Refused, [None], desk, "drop q", "p")
        self.assert_same(desk.do_all("set a = 2", "drop q", "kept"), ["out -", "kept a c", "kept a c"])

    def test_rules(self):
        desk = Desk(bill())
        for name in ["A", "aB", "1a", "abcdefghi", "=", "-", "a_b", "a.b"]:
            for text in ["loose net", "loose x", "sum net = 1"]:
                self.assert_refused(InvalidName, [name], desk, f"rule {name} = {text}")
        for text in ["loose x", "sum net + x = 0", "product net = 1 net1"]:
            for name in ["sum", "new"]:
                self.assert_refused(InvalidRules, [name], desk, f"rule {name} = {text}")
        self.assert_refused(Barred, [("new", "sum")], desk, "rule new = loose gross net tax by net")
        self.assert_refused(Barred, [("share", "sum")], desk, "rule sum = loose net rate tax")
        self.assert_refused(LooseRule, ["new"], desk, "rule new = loose net")
        self.assert_refused(LooseRule, ["sum"], desk, "rule sum = loose gross net")

    def test_refused_rules(self):
        form = Form(["a", "b", "c"], {})
        desk = Desk(Sheet(form, {"a": 0, "b": 1, "c": 2}))
        self.assert_refused(Refused, [None], desk, "rule p = product a b = 1", "p")
        self.assert_refused(Refused, [None], desk, "rule z = product a c = 1 b by c", "z")
        self.assert_same(desk.do_all("rule z = product b c = 1 a", "show c"), ["kept a b", "0"])

    def test_too_many_rules(self):
        rules = {f"r{at}": Total({f"f{at}": 1}) for at in range(6)}
        desk = Desk(Sheet(Form(ten(), rules), {f"f{at}": at for at in range(6, 10)}))
        for line in ["rule new = loose f9", "rule new = sum f0 = 1"]:
            self.assert_refused(TooMany, ["rules", 6], desk, line)
        self.assert_refused(InvalidRules, ["new"], desk, "rule new = loose f10")
        self.assert_refused(InvalidName, ["r-6"], desk, "rule r-6 = loose f10")
        self.assert_same(desk.do_all("rule r5 = sum f9 = 1", "kept"), ["kept f5 f6 f7 f8", "kept f5 f6 f7 f8"])

    def test_stay(self):
        desk = Desk(bill())
        for line, position in [("stay x", 0), ("stay net x", 1), ("stay net net", 1), ("stay net tax net x", 2), ("stay NET", 0), ("stay = =", 0),
                               ("stay rate net tax gross rate", 4), ("stay net sum", 1)]:
            self.assert_refused(InvalidLot, [position], desk, line)

    def test_undo(self):
        desk = Desk(Sheet(BILL, {"rate": 1, "net": 2}))
        self.assert_refused(NothingToUndo, [], desk, "undo")
        self.assert_same(desk.do_all("set net = 5", "undo"), ["out -", "undone"])
        self.assert_refused(NothingToUndo, [], desk, "undo")

    def test_no_other_errors(self):
        self.assertFalse(issubclass(AmountError, (FormError, MissingError, StateError)))


class TestDesk(DeskCase):
    def test_works_on_a_copy(self):
        sheet = bill()
        before = told(sheet)
        desk = Desk(sheet)
        self.assert_same(desk.do_all("undo", "set net = 1", "drop sum"), ["undone", "out -", "kept rate net gross"])
        self.assert_same(told(sheet), before)
        sheet["net"] = 9
        self.assert_same(desk.do("show net"), "1")

    def test_the_sheet_is_a_copy(self):
        desk = Desk(bill())
        one, other = desk.sheet(), desk.sheet()
        self.assertIsNot(one, other)
        self.assertIs(type(one), Sheet)
        one["net"] = 5
        one.undo()
        one.undo()
        self.assert_same([told(desk.sheet()), told(other)], [told(bill())] * 2)

    def test_what_could_be_taken_back(self):
        sheet = bill()
        sheet.form = BILL - "sum"
        desk = Desk(sheet)
        self.assert_same(desk.do_all("set tax = 1", "undo", "undo", "undo"), ["out net", "undone", "undone", "undone"])
        self.assert_same(told(desk.sheet()), told(Sheet(BILL, {"rate": Amount(1, 5), "net": 100})))
        self.assert_refused(NothingToUndo, [], desk, "undo")
        self.assert_same(sheet.changes, 2)

    def test_log(self):
        desk = Desk(bill())
        self.assert_same(desk.log(), [])
        done = ["set net = 5", "rule z = sum tax = 5", "undo", "drop sum", "set net = 5"]
        for line in ["kept", *done, "plan", "last", "show net", "stay net"]:
            desk.do(line)
        self.assertRaises(UnknownField, desk.do, "set x = 5")
        self.assertRaises(UnknownRule, desk.do, "drop x")
        self.assert_same(desk.log(), done)
        desk.do_all("undo", "kept", "set net = 6")
        self.assert_same(desk.log(), [*done, "undo", "set net = 6"])
        found = desk.log()
        found.clear()
        self.assert_same(desk.log(), [*done, "undo", "set net = 6"])
        self.assertIsNot(desk.log(), desk.log())

    def test_do_all(self):
        desk = Desk(bill())
        self.assert_same([desk.do_all(), desk.do_all("kept"), desk.log()], [[], ["kept net gross"], []])
        lines = ["set rate = 1/4", "set tax = 3", "drop sum", "undo", "rule sum = sum gross + tax = 1", "kept"]
        one = Desk(bill())
        self.assert_same(desk.do_all(*lines), [one.do(line) for line in lines])
        self.assert_same([told(desk.sheet()), desk.log()], [told(one.sheet()), one.log()])

    def test_do_all_with_an_error(self):
        desk = Desk(bill())
        desk.do("set net = 7")
        before = [told(desk.sheet()), desk.log()]
        ahead = ["undo", "undo", "set tax = 5", "drop share", "kept", "rule sum = sum net = 1"]
        for many in range(len(ahead) + 1):
            for line, error, values in [("x", InvalidLine, ["x"]), ("set x = 1", UnknownField, ["x"]), ("drop x", UnknownRule, ["x"]),
                                        ("set net = 1.5", InvalidText, [1]), ("stay tax tax", InvalidLot, [1])]:
                raised = self.assert_raises(CommandFailed, [many], desk.do_all, *ahead[:many], line, "undo", "y")
                self.assertIs(type(raised.__cause__), error)
                self.assert_same(list(vars(raised.__cause__).values()), values)
                self.assert_same([told(desk.sheet()), desk.log()], before)
        raised = self.assert_raises(CommandFailed, [3], desk.do_all, "undo", "undo", "kept", "undo")
        self.assertIs(type(raised.__cause__), NothingToUndo)
        self.assert_same([told(desk.sheet()), desk.log()], before)
        self.assert_same(desk.do_all("undo", "undo", "show gross"), ["undone", "undone", "120"])

    def test_two_desks(self):
        sheet = bill()
        one, other = Desk(sheet), Desk(sheet)
        one.do("set net = 1")
        self.assert_same([one.log(), other.log(), other.do("show net")], [["set net = 1"], [], "100"])

    def test_repeated_queries(self):
        desk = Desk(bill())
        for line in LINES:
            if line.split(" ")[0] not in ("set", "rule", "drop", "undo"):
                self.assert_same(desk.do(line), desk.do(line))
        self.assertEqual(Rule.read("product net rate = 1 tax"), SHARING)


def any_line(chance, form):
    """A line, and what it does to a sheet."""
    field = chance.choice(form.fields)
    kind = chance.choice(["set", "set", "set", "rule", "drop", "undo", "show", "kept", "plan", "stay", "last"])
    if kind == "set":
        number = any_number(chance)
        return f"set {field} = {number}", lambda sheet: listed("out", sheet.edit(field, number))
    if kind == "rule":
        tied = chance.sample(form.fields, min(len(form.fields), chance.randint(1, 3)))
        rule = chance.choice([Total({one: 1 for one in tied}, 2), Product(tied[:1], tied[1:], 3)])
        name = chance.choice(["n", *form.names()])
        return f"rule {name} = {rule.text()}", lambda sheet: put(sheet, Form(form.fields, {**form.rules(), name: rule}))
    if kind == "drop":
        name = chance.choice(["n", *form.names()])
        return f"drop {name}", lambda sheet: put(sheet, sheet.form - name)
    if kind == "stay":
        lot = chance.sample(form.fields, chance.randint(1, len(form.fields)))
        bar = bar_paper(form, lot)
        return "stay " + " ".join(lot), lambda sheet: "yes" if bar is None else listed("no", bar)
    return {
        "undo": ("undo", lambda sheet: sheet.undo() or "undone"), "show": (f"show {field}", lambda sheet: str(sheet[field])),
        "kept": ("kept", lambda sheet: listed("kept", sheet.kept)), "last": ("last", lambda sheet: str(sure_last(sheet.form))),
        "plan": ("plan", lambda sheet: ", ".join(" ".join(step) for step in plan_row(sheet.form, sheet.kept)) or "-")}[kind]


def put(sheet, form):
    sheet.form = form
    return listed("kept", sheet.kept)


def listed(word, names):
    return " ".join([word, *(names or ["-"])])
