"""Point [92] and the interface section keptlast/judge.py."""

import copy
import random
from itertools import permutations, product

from keptlast.clashes import clashes
from keptlast.errors import InvalidClaim
from keptlast.forms import Form
from keptlast.judge import KINDS, certificate_of, is_certificate, is_claim
from keptlast.rows import thrown_out
from keptlast.rules import Loose, Product
from models import NO_LISTS, any_forms, any_pairs, any_rows, lots_of, model_of, tangled_forms
from support import Case, EqualToAll, Odd
from test_clashes import LARGE, PAIR, THREE
from test_forms import ADDING, BILL, FIELDS, NO_NAMES, SHARING, ten
from test_known import in_ring, any_facts, orders_of

FEWER = Form(FIELDS, {"sum": ADDING, "share": Product(["net", "rate"], ["tax"], ways=["tax"])})
RENAMED = Form(FIELDS, {"a": ADDING, "b": SHARING})
TURNED = Form(FIELDS[::-1], {"sum": ADDING, "share": SHARING})
# An edit of f0 may throw out two fields.
TWO = Form(ten()[:5], {"p": Loose(["f1", "f3", "f4"]), "q": Loose(["f0", "f1", "f2"], ways=["f0", "f1"]),
                       "r": Loose(["f0", "f2", "f4"])})
SEVEN = Form(ten()[:7], {"p": Loose(["f0", "f6"])})
FACTS = [("gross", "rate"), ("net", "tax")]
TRUE = [
    ("can stay", BILL, ["net", "gross"]), ("can stay", BILL, ()), ("cannot stay", BILL, ("gross", "rate")),
    ("kept", BILL, ["net", "gross"], ["gross", "net"]), ("kept", BILL, [], ("rate", "net")), ("within", FEWER, BILL),
    ("within", TURNED, BILL), ("not within", BILL, FEWER), ("not within", TURNED, FEWER), ("alike", BILL, RENAMED), ("unlike", BILL, FEWER),
    ("last", BILL, 1), ("last", BILL, 0), ("not last", BILL, 2), ("not last", BILL, 4), ("two out", TWO), ("sure", BILL, FACTS, "net"),
    ("sure", BILL, tuple(FACTS), "net"), ("not sure", BILL, FACTS, "tax"), ("not sure", BILL, [], "rate")]
FALSE = [
    ("can stay", BILL, ["gross", "rate"]), ("cannot stay", BILL, ["net", "gross"]), ("cannot stay", BILL, []),
    ("kept", BILL, ["net", "gross"], ["net", "rate"]), ("kept", BILL, ["net", "gross"], ["net"]), ("kept", BILL, [], []),
    ("kept", BILL, [], FIELDS), ("within", BILL, FEWER), ("not within", FEWER, BILL), ("not within", BILL, TURNED), ("alike", BILL, FEWER),
    ("unlike", BILL, RENAMED), ("last", BILL, 2), ("last", BILL, 4), ("not last", BILL, 1), ("not last", BILL, 0), ("two out", BILL),
    ("sure", BILL, FACTS, "tax"), ("sure", BILL, FACTS, "rate"), ("not sure", BILL, FACTS, "net")]


def is_true(claim):
    """Whether a claim is true, by the words of the table."""
    kind, form, *parts = claim
    model = model_of(form)
    other = model_of(parts[0]) if parts and isinstance(parts[0], Form) else None
    if kind in ("can stay", "cannot stay"):
        return model.can_stay(parts[0]) == (kind == "can stay")
    if kind == "kept":
        return model.kept(parts[0]) == model.lot(parts[1])
    if kind in ("within", "not within"):
        return all(other.can_stay(lot) for lot in model.lots() if model.can_stay(lot)) == (kind == "within")
    if kind in ("alike", "unlike"):
        return all(model.kept(row) == other.kept(row) for row in model.rows()) == (kind == "alike")
    if kind in ("last", "not last"):
        return all(set(row) <= set(model.kept(row)) for row in permutations(form.fields, parts[0])) == (kind == "last")
    if kind == "two out":
        return any(len(set(model.kept(row)) - set(model.kept([*row, field]))) > 1
                   for row in permutations(form.fields) for field in form.fields)
    lots = orders_of(form, parts[0]).values()
    return all(parts[1] in lot for lot in lots) == (kind == "sure")


def is_shown(claim, value):
    """Whether a right value shows that a claim is true, by the words of the table and by trying all."""
    kind, form, *parts = claim
    model = model_of(form)
    if kind == "can stay":
        fields = dict(value)
        return sorted(fields) == form.names() and not set(fields.values()) & set(parts[0]) and model.has_row(fields)
    if kind == "cannot stay":
        return set(model.private(value)) <= set(parts[0])
    if kind == "not within":
        return is_shown(("can stay", form, value[0]), value[1]) and is_shown(("cannot stay", parts[0], value[0]), value[2])
    if kind == "unlike":
        return model.kept(value) != model_of(parts[0]).kept(value)
    if kind == "not last":
        return len(model.private(value)) <= parts[0]
    if kind == "two out":
        return len(set(model.kept(value[0])) - set(model.kept([*value[0], value[1]]))) > 1
    if kind == "not sure":
        return type(value) is list and parts[1] not in orders_of(form, parts[0])[tuple(value)]
    return True


class JudgeCase(Case):
    def assert_judged(self, claim):
        """The claim has a certificate exactly if it is true."""
        self.assert_same(is_claim(claim), True)
        told = repr(claim)
        found = certificate_of(claim)
        if is_true(claim):
            self.assertIsNot(found, None)
            self.assert_same(is_certificate(claim, found), True)
            self.assertTrue(is_shown(claim, found))
        else:
            self.assertIs(found, None)
        self.assert_same(certificate_of(claim), found)
        self.assert_same(is_certificate(claim, None), False)
        self.assertEqual(repr(claim), told)
        return found

    def assert_both(self, claim, kind):
        """Of a claim and its opposite, one is true."""
        one, other = self.assert_judged(claim), self.assert_judged((kind, *claim[1:]))
        self.assertNotEqual(one is None, other is None)
        self.assert_same(is_certificate(claim, other if one is None else one), one is not None)


class TestClaims(JudgeCase):
    def test_kinds(self):
        self.assert_same(KINDS, ("can stay", "cannot stay", "kept", "within", "not within", "alike", "unlike", "last", "not last",
                                 "two out", "sure", "not sure"))
        self.assertEqual({claim[0] for claim in TRUE}, set(KINDS))

    def test_the_document(self):
        self.assert_same(certificate_of(("cannot stay", BILL, ["rate", "gross"])), ("share", "sum"))
        self.assert_same(is_certificate(("unlike", PAIR, THREE), []), True)

    def test_right_claims(self):
        for claim in TRUE:
            self.assertIsNotNone(self.assert_judged(claim))
            self.assert_same([is_claim(value=claim), is_certificate(value=certificate_of(claim=claim), claim=claim)], [True, True])
        for claim in FALSE:
            self.assertIsNone(self.assert_judged(claim))

    def test_claims_with_one_part_changed(self):
        wrong = [None, True, False, -1, 5, 10 ** 30, "", "x", "stay", b"net", ["x"], ("net", "x"), [["net"]], [None],
                 {}, {"net": 1}, {"net"}, Odd(), EqualToAll(), [EqualToAll()], ADDING, Form, Form(["x"], {}), [("net", "x")], [("net",)]]
        for claim in [*TRUE, *FALSE]:
            for at in range(len(claim)):
                for value in wrong:
                    # The other parts of some claims fit another form, too.
                    if at == 1 and isinstance(value, Form):
                        continue
                    self.assert_no_claim((*claim[:at], value, *claim[at + 1:]))
                self.assert_no_claim((*claim[:at], *claim[at + 1:]))
            for value in [None, "net", [], BILL, 0]:
                self.assert_no_claim((*claim, value))
            self.assert_no_claim(list(claim))
            self.assert_no_claim((claim,))
            self.assert_no_claim(claim * 2)

    def assert_no_claim(self, value):
        self.assertIs(is_claim(value), False, value)
        for query in [certificate_of, lambda claim: is_certificate(claim, []), lambda claim: is_certificate(claim, claim)]:
            error = self.assert_raises(InvalidClaim, [value], query, value)
            self.assertIs(error.value, value)

    def test_kinds_that_are_none(self):
        for kind in [None, True, 0, "", "can", "canstay", "Can stay", "can stay ", "kept ", "two", "twoout", b"kept", ["kept"], ("kept",),
                     {"kept": 1}, {"kept"}, Odd(), EqualToAll(), "not kept", "not two out", KINDS, list(KINDS)]:
            for claim in [("can stay", BILL, ()), ("kept", BILL, [], []), ("two out", BILL)]:
                self.assert_no_claim((kind, *claim[1:]))

    def test_values_of_any_kind(self):
        for value in [*NO_LISTS, (), [], "can stay", ("can stay",), ("can stay", BILL), ["can stay", BILL, []], ("two out",), ["two out", BILL],
                      (BILL,), (BILL, "two out"), {"two out": BILL}, ("kept", BILL, []), ("last", BILL), Odd(), EqualToAll(), BILL, KINDS,
                      ("two out", [BILL]), ("two out", FIELDS), (("two out", BILL),), [[], []], [["two out"], BILL], (["two out"], BILL)]:
            self.assert_no_claim(value)

    def test_other_kinds_with_these_parts(self):
        alike = [("can stay", "cannot stay"), ("within", "not within"), ("alike", "unlike"), ("last", "not last"), ("sure", "not sure"),
                 ("kept",), ("two out",)]
        groups = {kind: group for group in alike for kind in group}
        for claim in [*TRUE, *FALSE]:
            for kind in KINDS:
                changed = (kind, *claim[1:])
                fits = kind in groups[claim[0]] or claim[1:] == (BILL, ()) and kind in alike[0]
                if {claim[0], kind} <= {"within", "not within", "alike", "unlike"}:
                    fits = claim[2].fields == claim[1].fields or kind in alike[1]
                self.assert_same(is_claim(changed), fits)

    def test_lots_and_rows(self):
        for kind in ["can stay", "cannot stay"]:
            for lot in [[], (), FIELDS, ("tax", "rate")]:
                self.assert_same(is_claim((kind, BILL, lot)), True)
            for value in NO_NAMES:
                self.assert_no_claim((kind, BILL, [value]))
        self.assert_same(is_claim(("kept", BILL, ["net", "net"], FIELDS)), True)
        self.assert_no_claim(("kept", BILL, ["net"], ["net", "net"]))
        self.assert_no_claim(("kept", BILL, ["x"], ["net"]))

    def test_two_forms(self):
        for kind in ["within", "not within"]:
            self.assert_same([is_claim((kind, BILL, TURNED)), is_claim((kind, BILL, BILL))], [True, True])
            self.assert_no_claim((kind, BILL, Form([*FIELDS, "x"], {})))
            self.assert_no_claim((kind, BILL, Form(FIELDS[1:], {})))
        for kind in ["alike", "unlike"]:
            self.assert_same([is_claim((kind, BILL, FEWER)), is_claim((kind, BILL, BILL))], [True, True])
            self.assert_no_claim((kind, BILL, TURNED))
            self.assert_no_claim((kind, BILL, Form([*FIELDS, "x"], {})))
        self.assert_same(is_claim(("unlike", LARGE[0], LARGE[0])), True)

    def test_counts(self):
        for kind in ["last", "not last"]:
            self.assert_same([is_claim((kind, BILL, many)) for many in range(5)], [True] * 5)
            for value in [-1, 5, 6, 10 ** 30, True, False, None, "1", [1], (1,)]:
                self.assert_no_claim((kind, BILL, value))

    def test_facts(self):
        six = Form(ten()[:6], {})
        for kind in ["sure", "not sure"]:
            for facts in [[], (), FACTS, tuple(FACTS), FACTS * 2]:
                self.assert_same(is_claim((kind, BILL, facts, "net")), True)
            self.assert_same([is_claim((kind, six, [], "f5")), is_claim((kind, BILL, [], "x"))], [True, False])
            for facts in [[("net", "net")], [("net", "tax"), ("tax", "net")], [["net", "tax"]], [("net", "x")], [("net", "tax", "net")],
                          [None], None, "net", {}, [("net",)]]:
                self.assert_no_claim((kind, BILL, facts, "net"))
            self.assert_no_claim((kind, SEVEN, [], "f0"))
            self.assert_no_claim((kind, Form(ten(), {}), [], "f0"))
            for value in [*NO_NAMES, "sum", "x"]:
                self.assert_no_claim((kind, BILL, FACTS, value))


class TestTruth(JudgeCase):
    def test_lots(self):
        for form in any_forms(60, 131, 5, 4):
            for lot in lots_of(form.fields):
                self.assert_both(("can stay", form, lot), "cannot stay")
                self.assert_both(("cannot stay", form, list(lot[::-1])), "can stay")

    def test_rows(self):
        chance = random.Random(132)
        for form in any_forms(80, 133, 5, 4):
            model = model_of(form)
            for row in any_rows(model, chance, 3):
                kept = model.kept(row)
                for lot in [kept, list(kept[::-1]), kept[1:], (), form.fields, *chance.sample(model.lots(), min(4, len(model.lots())))]:
                    found = self.assert_judged(("kept", form, row, lot))
                    if found is None:
                        # A row paper of the row is right, but tells another lot.
                        self.assert_same(is_certificate(("kept", form, row, lot), certificate_of(("kept", form, row, kept))), False)

    def test_pairs(self):
        for one, other in any_pairs(250, 134, 4, 3):
            self.assert_both(("within", one, other), "not within")
            self.assert_both(("not within", other, Form(one.fields[::-1], one.rules())), "within")
            self.assert_both(("alike", one, other), "unlike")

    def test_counts(self):
        for form in [*any_forms(80, 135, 5, 4), TWO]:
            for many in range(len(form.fields) + 1):
                self.assert_both(("last", form, many), "not last")

    def test_two_out(self):
        found = [self.assert_judged(("two out", form)) for form in [*any_forms(60, 136, 5, 4), *tangled_forms(40, 137), TWO]]
        self.assertGreater(min(sum(value is None for value in found), 4 * sum(value is not None for value in found)), 20)

    def test_facts(self):
        chance = random.Random(138)
        for form in any_forms(120, 139, 5, 4):
            facts = any_facts(form, chance)
            if not in_ring(form, facts):
                for field in form.fields:
                    self.assert_both(("sure", form, facts, field), "not sure")

    def test_large_forms(self):
        for form in LARGE:
            for lot in list(clashes(form))[:3]:
                self.assert_both(("can stay", form, lot), "cannot stay")
                self.assert_both(("can stay", form, lot[1:]), "cannot stay")
            other = form - form.names()[0]
            for claim in [("within", form, other), ("within", other, form), ("not within", other, form), ("not within", form, other)]:
                self.assert_judged(claim)
            found = [certificate_of((kind, form, other)) for kind in ["alike", "unlike"]]
            self.assertNotEqual(found[0] is None, found[1] is None)
            self.assertIsNotNone(certificate_of(("alike", form, form)))


class TestCertificates(JudgeCase):
    def assert_no_certificate(self, claim, values):
        for value in values:
            self.assert_same(is_certificate(claim, value), False)

    def test_values_of_any_kind(self):
        values = [None, True, False, 0, 1, "", "net", "share", b"", {}, {"net": 1}, {1}, set(), Odd(), EqualToAll(), BILL, ADDING, ["x"],
                  ("x",), [None], (None,), (None, None), [["net"]], ([], "x"), ([], None), (None, "net"), ["x"] * 4, [EqualToAll()] * 4,
                  (EqualToAll(),), (EqualToAll(), EqualToAll()), (EqualToAll(),) * 3, [()], [((),)], ((), (), ()), (((), ()),) * 2, {(): ()},
                  {"share": ("net",)}, [("share",)], [("share", "net", "net")], [[]], [("x", "net"), ("sum", "tax")], object]
        for claim in [*TRUE, *FALSE]:
            self.assert_no_certificate(claim, values)

    def test_those_of_other_claims(self):
        alike = {"can stay": (), "unlike": ("not sure",), "not sure": ("unlike",)}
        for claim in [*TRUE, *FALSE]:
            for other in TRUE:
                if other[0] != claim[0] and other[0] not in alike.get(claim[0], ("cannot stay", "not last")):
                    self.assert_no_certificate(claim, [certificate_of(other)])

    def test_certificates_of_forms_without_rules(self):
        free = Form(["a", "b"], {})
        for claim in [("can stay", free, ["a"]), ("kept", free, [], ["b", "a"]), ("within", free, free), ("alike", free, free),
                      ("last", free, 2), ("sure", free, [("b", "a")], "a")]:
            self.assertIsNotNone(self.assert_judged(claim))
        for claim in [("cannot stay", free, ["a"]), ("kept", free, [], ["b"]), ("not within", free, free), ("unlike", free, free),
                      ("not last", free, 2), ("two out", free), ("not sure", free, [], "a")]:
            self.assertIsNone(self.assert_judged(claim))
            self.assert_no_certificate(claim, [[], (), {}, ["a", "b"], ([], "a"), ((), [], ())])

    def test_kept(self):
        claim = ("kept", BILL, ["net", "gross"], ["net", "gross"])
        reasons, plan = certificate_of(claim)
        self.assert_same(reasons[:2], [None, None])
        right = [(reasons, plan), (tuple(reasons), plan), (reasons, tuple(plan))]
        self.assertTrue(all(is_certificate(claim, value) for value in right))
        self.assert_no_certificate(("kept", BILL, ["net", "gross"], ["net"]), right)
        self.assert_no_certificate(("kept", BILL, ["gross", "net"], ["net", "tax"]), right)
        self.assert_no_certificate(claim, [[reasons, plan], (reasons, plan[::-1]), (reasons[::-1], plan), (reasons, plan, plan),
                                           (reasons[:-1], plan), ([*reasons[:-1], None], plan), (plan, reasons), (reasons,)])

    def test_not_within(self):
        claim = ("not within", BILL, FEWER)
        lot, plan, bar = certificate_of(claim)
        self.assertIn(lot, [("tax",), ("gross",)])
        self.assert_same(is_certificate(claim, (lot, tuple(plan), bar)), True)
        two = ("not within", Form(["b", "a"], {}), Form(["a", "b"], {"p": Loose(["a", "b"])}))
        self.assert_same(certificate_of(two), (("b", "a"), [], ("p",)))
        self.assert_no_certificate(two, [(("a", "b"), [], ("p",)), (["b", "a"], [], ("p",)), (("b", "a"), [], ["p"]), (("b",), [], ("p",)),
                                         [("b", "a"), [], ("p",)], (("b", "a"), []), (("b", "a"), ("p",), []), (("b", "a", "x"), [], ("p",)),
                                         (("b", "a", "a"), [], ("p",)), (("b", "a"), [("p", "a")], ("p",)), (("b", "a"), [], ()),
                                         (None, [], ("p",)), (("b", None), [], ("p",)), (("b", "a"), None, ("p",)), (("b", "a"), [], None),
                                         ((EqualToAll(),) * 2, [], ("p",)), (("b", "a"), [], ("p",), ("p",))])
        self.assert_no_certificate(claim, [(lot, plan, ("sum", "share")), (lot, plan[::-1], bar[:1]), (lot, [], bar), ((), plan, bar)])

    def test_unlike(self):
        claim = ("unlike", BILL, FEWER)
        model, other = model_of(BILL), model_of(FEWER)
        shown = 0
        for size in range(4):
            for row in product(FIELDS, repeat=size):
                shown += model.kept(row) != other.kept(row)
                for value in [row, list(row)]:
                    self.assert_same(is_certificate(claim, value), model.kept(row) != other.kept(row))
        self.assertGreater(shown, 5)
        found = certificate_of(claim)
        self.assert_no_certificate(claim, [[*found, "x"], [*found, None], [found], "".join(found), {field: 1 for field in found}])

    def test_not_last(self):
        for many in range(5):
            claim = ("not last", BILL, many)
            for names in [("share",), ("sum",), ("share", "sum")]:
                self.assert_same(is_certificate(claim, names), len(model_of(BILL).private(names)) <= many)
        self.assert_no_certificate(("not last", BILL, 4), [("sum", "share"), ["share", "sum"], (), ("share", "share"), "share", ("x",),
                                                           ("share", "x"), ("share", "sum", "sum"), (["share"],), (None,), {"share", "sum"},
                                                           (EqualToAll(),), (("share",),), {"share": 1}])

    def test_two_out(self):
        claim = ("two out", TWO)
        row, field = certificate_of(claim)
        self.assertGreater(len(thrown_out(TWO, row, field)), 1)
        self.assertTrue(all(is_certificate(claim, value) for value in [(row, field), (tuple(row), field), ([*row, *row], field)]))
        self.assert_no_certificate(claim, [[row, field], (field, row), (row, "f9"), (row, None), ([*row, "x"], field), (row,), ([], field),
                                           (row, field, field), (row, [field]), (None, field), ("".join(row), field), (row, row[-1])])
        for chosen in permutations(TWO.fields, 3):
            for other in TWO.fields:
                self.assert_same(is_certificate(claim, (chosen, other)), len(thrown_out(TWO, chosen, other)) > 1)

    def test_sure(self):
        claim = ("sure", BILL, FACTS, "net")
        paper = certificate_of(claim)
        self.assertTrue(all(is_certificate(claim, value) for value in [paper, tuple(paper), paper[::-1], paper * 2]))
        full = tuple(FIELDS)
        # Further tuples are right as a stands paper, but this one does not show that net is sure.
        self.assert_no_certificate(claim, [[*paper, (full, ("tax",))], [*paper, (full, ())], paper[1:], paper[:-1], [], {}, dict(paper)])
        self.assert_same(is_certificate(claim, [*paper, (full, full)]), True)
        self.assert_no_certificate(("sure", BILL, FACTS, "tax"), [paper])
        self.assert_no_certificate(("sure", BILL, [], "net"), [paper])

    def test_not_sure(self):
        for facts in [FACTS, [], [("tax", "gross")]]:
            found = orders_of(BILL, facts)
            for field in FIELDS:
                claim = ("not sure", BILL, facts, field)
                for order in permutations(FIELDS):
                    for value in [order, list(order)]:
                        self.assert_same(is_certificate(claim, value), order in found and field not in found[order])
        order = certificate_of(("not sure", BILL, FACTS, "rate"))
        self.assert_no_certificate(("not sure", BILL, FACTS, "rate"), [order[:-1], [*order, "rate"], [*order[:-1], order[0]], [*order[:-1], "x"],
                                                                       [*order[:-1], None], (tuple(order),), dict.fromkeys(order), set(order),
                                                                       [*order[:-1], EqualToAll()]])

    def test_what_is_passed_stays_and_what_is_returned_may_be_changed(self):
        for claim in TRUE:
            parts = copy.deepcopy([part for part in claim if not isinstance(part, Form)])
            found, again = certificate_of(claim), certificate_of(claim)
            is_certificate(claim, found)
            self.assert_same(found, again)
            if isinstance(found, (list, dict)):
                self.assertIsNot(found, again)
                found.clear()
                self.assert_same(certificate_of(claim), again)
            self.assert_same([part for part in claim if not isinstance(part, Form)], parts)
