"""Points [51] and [52] and the interface section keptlast/pairs.py."""

import random
from itertools import chain, combinations, product

from keptlast.clashes import clashes, is_lots_paper, lots_paper
from keptlast.errors import OtherFields, OtherSequence, TooMany
from keptlast.exchange import is_one_for_one
from keptlast.forms import Form
from keptlast.pairs import alike_paper, are_alike, are_unions, is_alike_paper, loss, parting
from keptlast.rules import Loose, Product
from models import any_forms, any_pairs, any_rows, model_of, pairs_of_forms, small_forms, tangled_forms
from support import Case, EqualToAll, Odd
from test_clashes import LARGE, PAIR, THREE
from test_forms import ADDING, BILL, FIELDS, ten

FREE = Form(["b", "a"], {})
ONE = Form(["a", "b", "c"], {"p": Loose(["a", "b"]), "q": Loose(["b", "c"])})
OTHER = Form(["a", "b", "c"], {"x": Loose(["c", "a"]), "y": Loose(["a", "b"])})


def same_sequence(forms, step):
    return [(one, other) for one, other in pairs_of_forms(forms) if one.fields == other.fields][::step]


def shortest(one, other, is_wanted):
    """How many edits the shortest row has behind which the kept lots are as wanted, or None."""
    first, second = model_of(one), model_of(other)
    for row in first.rows():
        if is_wanted(set(first.kept(row)), set(second.kept(row))):
            return len(row)
    return None


def differ(first, second):
    return first != second


def lose(first, second):
    return bool(first - second)


def unions(model):
    """All unions of clashes."""
    found = model.clashes()
    return [set(chain(*some)) for size in range(len(found) + 1) for some in combinations(found, size)]


class TestAlike(Case):
    def test_pair_and_three(self):
        self.assert_same([are_alike(PAIR, THREE), parting(PAIR, THREE), alike_paper(PAIR, THREE)], [False, [], None])
        self.assert_same([are_alike(ONE, OTHER), parting(ONE, OTHER)], [True, None])
        paper = alike_paper(ONE, OTHER)
        self.assert_same([type(paper), type(paper[0]), type(paper[1])], [tuple, dict, dict])
        self.assert_same(is_alike_paper(ONE, OTHER, paper), True)

    def test_by_names(self):
        self.assert_same([are_alike(other=OTHER, one=ONE), parting(other=THREE, one=PAIR), loss(other=THREE, one=PAIR),
                          are_unions(other=THREE, one=PAIR)], [True, [], [], False])
        self.assert_same(is_alike_paper(value=alike_paper(other=OTHER, one=ONE), other=OTHER, one=ONE), True)

    def test_without_rules(self):
        same = Form(["b", "a"], {})
        self.assert_same([are_alike(FREE, same), parting(FREE, same), alike_paper(FREE, same), loss(FREE, same),
                          are_unions(FREE, same)], [True, None, ({}, {}), None, True])
        self.assert_same([is_alike_paper(FREE, same, ({}, {})), is_alike_paper(FREE, same, ({}, []))], [True, False])
        ruled = Form(["b", "a"], {"p": Loose(["a"])})
        self.assert_same([parting(FREE, ruled), loss(FREE, ruled), loss(ruled, FREE)], [[], [], None])
        self.assert_same([are_unions(FREE, ruled), are_unions(ruled, FREE)], [False, True])

    def assert_like_the_words(self, one, other):
        expected = shortest(one, other, differ)
        row, paper = parting(one, other), alike_paper(one, other)
        self.assert_same(are_alike(one, other), expected is None)
        # The guarantee ALIKE.
        self.assert_same(list(clashes(one)) == list(clashes(other)), expected is None)
        if expected is None:
            self.assertIs(row, None)
            self.assert_same([type(paper), len(paper)], [tuple, 2])
            self.assert_same([is_lots_paper(one, other, paper[0]), is_lots_paper(other, one, paper[1])], [True, True])
            self.assert_same([list(part) == sorted(part) for part in paper], [True, True])
            self.assert_same(is_alike_paper(one, other, paper), True)
        else:
            self.assertIs(paper, None)
            self.assert_same([type(row), len(row)], [list, expected])
            self.assertNotEqual(model_of(one).kept(row), model_of(other).kept(row))

    def test_small_forms(self):
        for one, other in same_sequence([*small_forms(), *any_forms(200, 51, 4, 3)], 17):
            self.assert_like_the_words(one, other)

    def test_forms_of_all_kinds(self):
        lengths = set()
        for one, other in any_pairs(400, 52):
            self.assert_like_the_words(one, other)
            lengths.add(shortest(one, other, differ))
        self.assertLessEqual({None, 0, 1, 2, 3}, lengths)

    def test_long_partings(self):
        fields = ten()[:6]
        for size in range(2, 7):
            one = Form(fields, {"p": Loose(fields[-size:])})
            other = Form(fields, {"p": Loose(fields[-size:], ways=fields[-size:-1])})
            self.assert_like_the_words(one, other)
            self.assert_like_the_words(other, one)

    def test_large_forms(self):
        chance = random.Random(53)
        for form in LARGE:
            self.assert_same([are_alike(form, form), parting(form, form)], [True, None])
            self.assert_same(is_alike_paper(form, form, alike_paper(form, form)), True)
            for name in form.names():
                ways = form[name].ways
                other = Form(form.fields, {**form.rules(), name: Loose(form[name].fields, ways=ways[-2:])})
                row = parting(form, other)
                if row is None:
                    for row in any_rows(model_of(form), chance, 50):
                        self.assert_same(form(row), other(row))
                else:
                    self.assertNotEqual(form(row), other(row))
                    # One edit less is never enough.
                    for shorter in model_of(form).rows(min(2, len(row) - 1)):
                        self.assert_same(form(shorter), other(shorter))

    def test_large_forms_with_long_partings(self):
        for size in range(2, 11):
            one = Form(ten(), {"p": Loose(ten()[-size:])})
            other = Form(ten(), {"p": Loose(ten()[-size:], ways=ten()[-size:-1])})
            # Only if its last field is edited ahead of all others, it is thrown out in one form.
            row = parting(one, other)
            self.assertNotEqual(one(row), other(row))
            self.assertLessEqual(len(row), size)


class TestAlikePapers(Case):
    def test_changed_papers(self):
        first, second = alike_paper(ONE, OTHER)
        self.assert_same(is_alike_paper(ONE, OTHER, (dict(reversed(list(first.items()))), second)), True)
        self.assert_same(is_alike_paper(ONE, OTHER, (second, first)), False)
        for value in [[first, second], (first,), (second,), (first, second, first), (), [], {}, None, True, 0, 1, "", "ab", b"ab",
                      Odd(), EqualToAll(), {"a", "b"}, {0: first, 1: second}, (first, None), (None, second), (None, None),
                      ({}, {}), (first, {}), ({}, second), (Odd(), Odd()), (EqualToAll(), EqualToAll()), (list(first), second)]:
            self.assert_same(is_alike_paper(ONE, OTHER, value), False)
        for key in first:
            less = {other: first[other] for other in first if other != key}
            for wrong in [less, {**first, key: ("x",)}, {**first, key: list(first[key])}, {**less, "p": first[key]}]:
                self.assert_same(is_alike_paper(ONE, OTHER, (wrong, second)), False)
        for key in second:
            less = {other: second[other] for other in second if other != key}
            for wrong in [less, {**second, key: ("q",)}, {**second, key: None}, {**less, ("p", "p"): second[key]}]:
                self.assert_same(is_alike_paper(ONE, OTHER, (first, wrong)), False)

    def test_all_papers_of_the_right_kinds(self):
        right = 0
        for one, other in any_pairs(60, 54, 3, 2):
            sets = [model_of(one).sets(), model_of(other).sets()]
            for first in product(sets[0], repeat=len(sets[1])):
                for second in product(sets[1], repeat=len(sets[0])):
                    value = (dict(zip(sets[1], first)), dict(zip(sets[0], second)))
                    expected = is_lots_paper(one, other, value[0]) and is_lots_paper(other, one, value[1])
                    right += expected
                    self.assert_same(is_alike_paper(one, other, value), expected)
        self.assertGreater(right, 50)

    def test_one_half_is_not_enough(self):
        self.assert_same(is_alike_paper(PAIR, THREE, (lots_paper(PAIR, THREE), {("p",): ("q",)})), False)
        self.assert_same(is_alike_paper(THREE, PAIR, ({("p",): ("q",)}, lots_paper(PAIR, THREE))), False)

    def test_what_is_returned_may_be_changed(self):
        found, again = alike_paper(ONE, OTHER), alike_paper(ONE, OTHER)
        self.assert_same(found, again)
        found[0].clear()
        found[1].clear()
        self.assert_same(alike_paper(ONE, OTHER), again)
        twice = alike_paper(ONE, ONE)
        self.assertIsNot(twice[0], twice[1])

    def test_the_paper_stays(self):
        paper, again = alike_paper(ONE, OTHER), alike_paper(ONE, OTHER)
        is_alike_paper(ONE, OTHER, paper)
        self.assert_same(paper, again)


class TestLoss(Case):
    def assert_like_the_words(self, one, other):
        expected = shortest(one, other, lose)
        row = loss(one, other)
        if expected is None:
            self.assertIs(row, None)
        else:
            self.assert_same([type(row), len(row)], [list, expected])
            self.assertFalse(set(model_of(one).kept(row)) <= set(model_of(other).kept(row)))
        if is_one_for_one(one):
            self.assert_same(are_unions(one, other), expected is None)

    def test_small_forms(self):
        for one, other in same_sequence([*small_forms(), *any_forms(200, 55, 4, 3)], 17):
            self.assert_like_the_words(one, other)

    def test_forms_of_all_kinds(self):
        lengths = set()
        for one, other in [*any_pairs(300, 56), *any_pairs(300, 57, 4, 4)]:
            self.assert_like_the_words(one, other)
            self.assert_like_the_words(one, Form(other.fields, {}))
            lengths.add(shortest(one, other, lose))
        self.assertLessEqual({None, 0, 1, 2}, lengths)

    def test_forms_that_are_not_one_for_one(self):
        forms = [*tangled_forms(150, 62)]
        for one, other in same_sequence(forms, 61):
            expected, row = shortest(one, other, lose), loss(one, other)
            self.assert_same(None if row is None else len(row), expected)
        for form in forms[:40]:
            for name in form.names():
                self.assert_like_the_words(form, form - name)
                self.assert_like_the_words(form - name, form)

    def test_fewer_rules_keep_more(self):
        bill = BILL - "sum"
        self.assert_same([loss(BILL, bill), loss(bill, BILL)], [None, []])

    def test_seven_fields_are_enough_and_eight_are_not(self):
        one, other = Form(ten()[:7], {"p": Loose(ten()[:7])}), Form(ten()[:7], {"p": Loose(ten()[:7], ways=["f6"])})
        # One field is kept in one form and not in the other, whichever is the last one of the order.
        for first, second in [(one, other), (other, one)]:
            row = loss(first, second)
            self.assertFalse(set(first(row)) <= set(second(row)))
            self.assert_same(len(row), shortest(first, second, lose))
        free = Form(ten()[:7], {})
        self.assert_same([loss(one, free), loss(free, one)], [None, []])
        for many in [8, 9, 10]:
            form = Form(ten()[:many], {})
            self.assert_raises(TooMany, ["fields", 7], loss, form, form)
            self.assert_raises(TooMany, ["fields", 7], loss, form, Form(form.fields, {"p": Loose(["f0"])}))

    def test_seven_fields_of_all_kinds(self):
        chance = random.Random(58)
        for one, other in any_pairs(150, 58, 7, 5):
            row = loss(one, other)
            if row is None:
                for row in any_rows(model_of(one), chance, 20):
                    self.assertLessEqual(set(one(row)), set(other(row)))
            else:
                self.assertFalse(set(one(row)) <= set(other(row)))


class TestUnions(Case):
    def test_pair_and_three(self):
        self.assert_same([are_unions(PAIR, THREE), are_unions(THREE, PAIR), are_unions(ONE, OTHER)], [False, False, True])
        fewer = Form(["a", "b", "c"], {"p": Loose(["a"]), "q": Loose(["b", "c"])})
        self.assert_same([are_unions(fewer, THREE), are_unions(THREE, fewer)], [True, False])

    def assert_like_the_words(self, one, other):
        found = unions(model_of(one))
        self.assert_same(are_unions(one, other), all(set(lot) in found for lot in model_of(other).clashes()))

    def test_against_the_words(self):
        for one, other in same_sequence([*small_forms(), *any_forms(200, 59, 4, 3)], 11):
            self.assert_like_the_words(one, other)
        for one, other in any_pairs(200, 60):
            if len(model_of(one).clashes()) < 10:
                self.assert_like_the_words(one, other)

    def test_more_than_seven_fields(self):
        for one, other in product([form for form in LARGE if form.fields == tuple(ten())], repeat=2):
            self.assert_same(are_unions(one, other), all(
                set(chain(*[part for part in clashes(one) if set(part) <= set(lot)])) == set(lot) for lot in clashes(other)))


class TestErrors(Case):
    def each_query(self):
        yield from [are_alike, parting, alike_paper, loss, are_unions]
        for value in [None, ({}, {})]:
            yield lambda one, other: is_alike_paper(one, other, value)

    def test_other_fields_ahead_of_the_sequence(self):
        one, other = Form(["d", "b", "a"], {}), Form(["a", "c", "d", "e"], {})
        for query in self.each_query():
            self.assert_raises(OtherFields, ["b"], query, one, other)
            self.assert_raises(OtherFields, ["b"], query, other, one)
            self.assert_raises(OtherFields, ["tax"], query, BILL, Form(["net", "rate", "gross"], {}))
            self.assert_raises(OtherFields, ["f1"], query, Form(ten(), {}), Form(["f0"], {}))

    def test_other_sequence(self):
        for query in self.each_query():
            self.assert_raises(OtherSequence, [2], query, BILL, Form(["rate", "net", "gross", "tax"], {"sum": ADDING}))
            self.assert_raises(OtherSequence, [0], query, BILL, Form(FIELDS[::-1], {}))
            # Also if there are too many fields for an answer.
            self.assert_raises(OtherSequence, [8], query, Form(ten(), {}), Form([*ten()[:8], "f9", "f8"], {}))

    def test_repeated_queries(self):
        for one, other in any_pairs(80, 61):
            for query in self.each_query():
                self.assert_same(query(one, other), query(one, other))

    def test_what_is_returned_may_be_changed(self):
        one = Form(FIELDS, {"sum": ADDING, "share": Product(["net", "rate"], ["tax"], ways=["tax"])})
        for query in [parting, loss]:
            found = query(BILL, one)
            again = query(BILL, one)
            self.assertIsNot(found, again)
            found.append("x")
            self.assert_same(query(BILL, one), again)
