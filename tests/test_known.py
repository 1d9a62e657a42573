"""Points [71] and [72] and the interface section keptlast/known.py."""

import copy
import random
from itertools import combinations, permutations, product

from keptlast.errors import Contradicted, InvalidFacts, InvalidLot, TooMany
from keptlast.forms import Form
from keptlast.known import is_stands_paper, lost, order_for, possible, stands_paper, sure
from keptlast.rules import Loose
from models import NO_LISTS, any_forms, lots_of, model_of, small_forms
from support import Case, EqualToAll, Odd, same
from test_forms import BILL, FIELDS, NO_NAMES, ten

FACTS = [("gross", "rate"), ("net", "tax")]
FREE = Form(["b", "a"], {})
SIX = Form(ten()[:6], {"p": Loose(["f0", "f2", "f4"], ways=["f0", "f4"]), "q": Loose(["f0", "f1", "f2", "f5"]),
                       "r": Loose(["f1", "f3", "f5"])})
SEVEN = Form(ten()[:7], {"p": Loose(["f0", "f6"])})
NO_FACTS = [None, True, 0, "", "ab", [], ["net", "tax"], (), ("net",), ("net", "tax", "net"), ("net", "x"), ("x", "net"), ("", "net"),
            ("net", None), (None, "net"), (1, 2), (("net",), "tax"), ("net", ["tax"]), {"net": "tax"}, {"net", "tax"}, b"ab",
            ("net", b"tax"), ("NET", "tax"), Odd(), EqualToAll(), ("net", EqualToAll()), (Odd(), "net"), ("share", "sum")]


def keeps(order, facts):
    return all(order.index(newer) < order.index(elder) for newer, elder in facts if newer != elder) and not any(
        newer == elder for newer, elder in facts)


def orders_of(form, facts):
    """All orders of all fields that keep the facts, each with the fields that are kept."""
    model = model_of(form)
    return {order: model.kept(order[::-1]) for order in permutations(form.fields) if keeps(order, facts)}


def in_ring(form, facts):
    """The fields that would have to be ahead of themselves."""
    ahead = set(facts)
    for middle, one, other in product(form.fields, repeat=3):
        if (one, middle) in ahead and (middle, other) in ahead:
            ahead.add((one, other))
    return [field for field in form.fields if (field, field) in ahead]


def any_facts(form, chance):
    """Facts that some order keeps, mostly; some of them twice."""
    order = chance.sample(form.fields, len(form.fields))
    pairs = [pair for pair in combinations(order, 2)]
    facts = chance.sample(pairs, min(len(pairs), chance.choice([0, 1, 1, 2, 2, 3, 4])))
    facts = facts + facts[:chance.randint(0, 1)]
    if chance.random() < 0.2:
        facts.append((chance.choice(form.fields), chance.choice(form.fields)))
    chance.shuffle(facts)
    return chance.choice([list, tuple])(facts)


def cases(count, seed, most_fields=5, most_rules=4):
    chance = random.Random(seed)
    for form in any_forms(count, seed, most_fields, most_rules):
        yield form, any_facts(form, chance)


def is_paper(form, facts, value):
    """Whether a list of tuples of lots is a stands paper, by the words of the document."""
    model = model_of(form)
    states = {(frozenset(seen), frozenset(kept)) for seen, kept in value}
    if (frozenset(), frozenset()) not in states or any(not kept <= seen for seen, kept in states):
        return False
    for seen, kept in states:
        for field in form.fields:
            if field not in seen and all(newer in seen for newer, elder in facts if elder == field):
                more = kept | {field}
                if (seen | {field}, more if model.can_stay(more) else kept) not in states:
                    return False
    return True


QUERIES = [possible, sure, lost, stands_paper, lambda form, facts: order_for(form, facts, []),
           lambda form, facts: is_stands_paper(form, facts, [])]


class TestPossible(Case):
    def test_the_bill(self):
        self.assert_same([possible(BILL, FACTS), sure(BILL, FACTS), lost(BILL, FACTS)],
                         [[("net", "tax"), ("net", "gross")], ("net",), ("rate",)])
        self.assert_same([possible(facts=FACTS, form=BILL), sure(facts=FACTS, form=BILL), lost(facts=FACTS, form=BILL)],
                         [[("net", "tax"), ("net", "gross")], ("net",), ("rate",)])
        for lot in [("net", "gross"), ["gross", "net"]]:
            self.assertIn(tuple(order_for(BILL, FACTS, lot)), orders_of(BILL, FACTS))
            self.assert_same(BILL(order_for(lot=lot, facts=FACTS, form=BILL)[::-1]), ("net", "gross"))
        self.assert_same([order_for(BILL, FACTS, ["net", "rate"]), order_for(BILL, FACTS, []), order_for(BILL, FACTS, FIELDS)], [None] * 3)

    def test_no_facts(self):
        for facts in [[], ()]:
            self.assert_same(possible(BILL, facts), [("rate", "net"), ("rate", "tax"), ("net", "tax"), ("net", "gross"), ("tax", "gross")])
            self.assert_same([sure(BILL, facts), lost(BILL, facts)], [(), ()])
            self.assert_same([possible(FREE, facts), sure(FREE, facts), lost(FREE, facts)], [[("b", "a")], ("b", "a"), ()])
        never = Form(["a", "b"], {"p": Loose(["a"])})
        self.assert_same([possible(never, []), sure(never, []), lost(never, [])], [[("b",)], ("b",), ("a",)])

    def test_facts_of_all_fields(self):
        facts = [("gross", "net"), ("net", "rate"), ("rate", "tax")]
        self.assert_same(possible(BILL, facts), [("net", "gross")])
        self.assert_same([sure(BILL, facts), lost(BILL, facts)], [("net", "gross"), ("rate", "tax")])
        self.assert_same(order_for(BILL, facts, ["net", "gross"]), ["gross", "net", "rate", "tax"])

    def test_facts_that_follow_from_others_and_facts_twice(self):
        facts = [("gross", "rate"), ("rate", "net")]
        for more in [[("gross", "net")], facts, [("rate", "net")] * 3, [("gross", "net"), ("gross", "rate"), ("gross", "net")]]:
            for given in [[*facts, *more], [*more, *facts], tuple([*facts, *more])]:
                self.assert_same(possible(BILL, given), possible(BILL, facts))
                self.assert_same([sure(BILL, given), lost(BILL, given)], [sure(BILL, facts), lost(BILL, facts)])
                self.assert_same(is_stands_paper(BILL, given, stands_paper(BILL, given)), True)

    def assert_like_the_words(self, form, facts):
        model = model_of(form)
        found = orders_of(form, facts)
        if not found:
            for query in QUERIES:
                self.assert_raises(Contradicted, [in_ring(form, facts)[0]], query, form, facts)
            return False
        lots = [lot for lot in model.full if lot in found.values()]
        self.assert_same(possible(form, facts), lots)
        self.assert_same(sure(form, facts), tuple(field for field in form.fields if all(field in lot for lot in lots)))
        self.assert_same(lost(form, facts), tuple(field for field in form.fields if all(field not in lot for lot in lots)))
        for lot in model.lots():
            order = order_for(form, facts, lot[::-1])
            if lot in lots:
                self.assertIs(type(order), list)
                self.assert_same(found[tuple(order)], lot)
                self.assert_same(order_for(form, facts, list(lot)), order)
            else:
                self.assertIs(order, None)
        paper = stands_paper(form, facts)
        self.assertIs(type(paper), list)
        for part in paper:
            self.assert_same([part, len(part)], [(model.lot(part[0]), model.lot(part[1])), 2])
        self.assertTrue(is_paper(form, facts, paper))
        self.assert_same(is_stands_paper(form, facts, paper), True)
        for field in form.fields:
            # The paper shows just what is sure.
            self.assert_same(all(field in kept for seen, kept in paper if field in seen), field in sure(form, facts))
        return True

    def test_small_forms_with_all_facts(self):
        for form in list(small_forms())[::9]:
            pairs = list(product(form.fields, repeat=2))
            for facts in lots_of(pairs[:6]) if len(pairs) < 9 else [*lots_of(pairs[1:4]), *lots_of(pairs[5:8]), pairs]:
                self.assert_like_the_words(form, facts)

    def test_any_forms(self):
        kept = [self.assert_like_the_words(form, facts) for form, facts in [*cases(400, 91), *cases(25, 92, 6)]]
        self.assertGreater(min(kept.count(True), 8 * kept.count(False)), 200)

    def test_six_fields(self):
        for facts in [[], [("f5", "f0"), ("f3", "f4")], [("f1", "f2"), ("f2", "f3"), ("f3", "f4"), ("f4", "f5"), ("f5", "f0")],
                      [("f0", "f1"), ("f5", "f1"), ("f1", "f4")]]:
            self.assertTrue(self.assert_like_the_words(SIX, facts))

    def test_answers_behind_changes(self):
        found, again = possible(BILL, FACTS), possible(BILL, FACTS)
        self.assertIsNot(found, again)
        found.clear()
        self.assert_same(possible(BILL, FACTS), again)
        order, paper = order_for(BILL, FACTS, ["net", "tax"]), stands_paper(BILL, FACTS)
        told = copy.deepcopy([order, paper])
        order.clear()
        paper.clear()
        self.assert_same([order_for(BILL, FACTS, ["net", "tax"]), stands_paper(BILL, FACTS)], told)

    def test_what_is_passed_stays(self):
        facts, lot = [("net", "tax"), ("gross", "rate"), ("net", "tax")], ["tax", "net"]
        for query in QUERIES:
            query(BILL, facts)
        order_for(BILL, facts, lot)
        is_stands_paper(BILL, facts, lot)
        self.assert_same([facts, lot], [[("net", "tax"), ("gross", "rate"), ("net", "tax")], ["tax", "net"]])

    def test_repeated_queries(self):
        for form, facts in cases(60, 93):
            if not in_ring(form, facts):
                for query in QUERIES:
                    self.assert_same(query(form, facts), query(form, facts))
                for lot in possible(form, facts):
                    self.assert_same(order_for(form, facts, lot), order_for(form, list(facts), lot))


class TestErrors(Case):
    def assert_all_raise(self, error, values, form, facts):
        for query in QUERIES:
            self.assert_raises(error, values, query, form, facts)

    def test_no_lists(self):
        for facts in [*NO_LISTS, EqualToAll(), Odd(), "net", {("net", "tax"): 1}]:
            self.assert_all_raise(InvalidFacts, [None], BILL, facts)

    def test_no_facts(self):
        for fact in NO_FACTS:
            self.assert_all_raise(InvalidFacts, [0], BILL, [fact])
            self.assert_all_raise(InvalidFacts, [1], BILL, [("net", "tax"), fact, None])
            self.assert_all_raise(InvalidFacts, [2], BILL, (("net", "tax"), ("net", "net"), fact))
        for value in NO_NAMES:
            self.assert_all_raise(InvalidFacts, [0], BILL, [("net", value)])
            self.assert_all_raise(InvalidFacts, [0], BILL, [(value, "net")])

    def test_facts_come_ahead_of_lots(self):
        self.assert_raises(InvalidFacts, [0], order_for, BILL, [0], 0)
        self.assert_raises(InvalidFacts, [None], order_for, SEVEN, 0, 0)
        for lot in NO_LISTS:
            self.assert_raises(InvalidLot, [None], order_for, BILL, FACTS, lot)
        self.assert_raises(InvalidLot, [1], order_for, BILL, [], ["net", "x", "net"])
        self.assert_raises(InvalidLot, [1], order_for, BILL, [], ["net", "net", "x"])
        for value in NO_NAMES:
            self.assert_raises(InvalidLot, [0], order_for, BILL, FACTS, [value])

    def test_lots_come_ahead_of_too_many_fields(self):
        self.assert_raises(InvalidLot, [None], order_for, SEVEN, [("f0", "f0")], 0)
        self.assert_raises(InvalidLot, [0], order_for, BILL, [("net", "net")], ["x"])
        self.assert_raises(TooMany, ["fields", 6], order_for, SEVEN, [("f0", "f0")], ["f0"])

    def test_too_many_fields(self):
        for form in [SEVEN, Form(ten(), {})]:
            for facts in [[], [("f0", "f1")], [("f0", "f0")]]:
                self.assert_all_raise(TooMany, ["fields", 6], form, facts)
            self.assert_all_raise(InvalidFacts, [1], form, [("f0", "f0"), 1])
        for query in QUERIES:
            query(SIX, [])

    def test_contradicted(self):
        ring = [("tax", "gross"), ("gross", "net"), ("net", "tax")]
        self.assert_all_raise(Contradicted, ["net"], BILL, ring)
        for facts, field in [([("tax", "tax")], "tax"), ([("gross", "gross"), ("net", "net")], "net"),
                             ([("net", "tax"), ("tax", "net")], "net"), ([("rate", "net"), *ring], "net"),
                             ([*ring, ("gross", "rate")], "net"), ([("rate", "tax"), ("tax", "gross"), ("gross", "tax")], "tax"),
                             ([("tax", "rate"), ("tax", "gross"), ("gross", "tax")], "tax"), ([*ring, ("rate", "rate")], "rate"),
                             ([("gross", "tax"), ("tax", "net"), ("net", "rate"), ("rate", "gross")], "rate")]:
            for given in [facts, tuple(facts), facts[::-1], facts * 2]:
                self.assert_all_raise(Contradicted, [field], BILL, given)

    def test_rings_of_all_lengths(self):
        for size in range(1, 7):
            for first in range(7 - size):
                ring = [f"f{first + at}" for at in range(size)]
                facts = [(ring[at], ring[(at + 1) % size]) for at in range(size)]
                others = [field for field in SIX.fields if field not in ring]
                facts = facts + [(other, ring[-1]) for other in others[::2]] + [(ring[-1], other) for other in others[1::2]]
                self.assert_all_raise(Contradicted, [f"f{first}"], SIX, facts)
                for at in range(size):
                    # Without one of its facts, there is no ring.
                    self.assertTrue(possible(SIX, facts[:at] + facts[at + 1:]))


class TestStandsPapers(Case):
    def setUp(self):
        self.right = stands_paper(BILL, FACTS)

    def assert_paper(self, value, expected):
        self.assert_same(is_stands_paper(BILL, FACTS, value), expected)

    def test_right_papers(self):
        self.assert_paper(self.right, True)
        self.assert_paper(tuple(self.right), True)
        self.assert_paper(self.right[::-1], True)
        self.assert_paper(self.right * 2, True)
        self.assert_same(is_stands_paper(value=self.right, facts=FACTS, form=BILL), True)
        self.assert_same(is_stands_paper(BILL, tuple(FACTS), self.right), True)

    def test_the_paper_in_full(self):
        expected = [((), ()), (("net",), ("net",)), (("gross",), ("gross",)), (("net", "tax"), ("net", "tax")),
                    (("net", "gross"), ("net", "gross")), (("rate", "gross"), ("gross",)), (("rate", "net", "gross"), ("net", "gross")),
                    (("net", "tax", "gross"), ("net", "tax")), (("net", "tax", "gross"), ("net", "gross")),
                    (("rate", "net", "tax", "gross"), ("net", "tax")), (("rate", "net", "tax", "gross"), ("net", "gross"))]
        self.assertEqual(set(self.right), set(expected))
        self.assert_paper(expected, True)
        self.assert_same(is_stands_paper(FREE, [], stands_paper(FREE, [])), True)
        self.assertEqual(set(stands_paper(FREE, [])), {((), ()), (("b",), ("b",)), (("a",), ("a",)), (("b", "a"), ("b", "a"))})

    def test_each_tuple_is_needed(self):
        for part in self.right:
            self.assert_paper([other for other in self.right if other != part], False)

    def test_further_tuples(self):
        full = tuple(FIELDS)
        for more in [[(full, ())], [(full, full)], [(full, ("rate",)), (full, ("rate", "gross"))]]:
            self.assert_paper(self.right + more, True)
            self.assert_paper(more + self.right + more, True)
        # From here a field may follow: rate is kept behind net and tax if net is not kept.
        self.assert_paper([*self.right, (("net", "tax", "gross"), ("tax",))], False)
        self.assert_paper([*self.right, (("net", "tax", "gross"), ("tax",)), (full, ("rate", "tax"))], True)
        self.assert_paper([*self.right, (("net", "tax", "gross"), ("tax",)), (full, ("tax",))], False)
        # A lot that cannot stay may be in a further tuple, and stays as it is.
        self.assert_paper([*self.right, (("rate", "net", "gross"), ("rate", "gross")), (full, ("rate", "gross"))], True)
        self.assert_paper([*self.right, (("rate", "net", "gross"), ("rate", "gross"))], False)
        # Fields may be seen that the facts put behind others that are not.
        self.assert_paper([*self.right, (("rate", "tax"), ()), (("rate", "tax", "gross"), ("gross",)), (("rate", "net", "tax"), ("net",)),
                           (full, ("tax", "gross")), (full, ("net", "gross"))], True)

    def test_each_choice_of_tuples(self):
        chance = random.Random(94)
        right = 0
        for form, facts in cases(60, 95, 3, 2):
            if in_ring(form, facts):
                continue
            lots = model_of(form).lots()
            parts = [(seen, kept) for seen in lots for kept in lots if set(kept) <= set(seen)]
            paper = stands_paper(form, facts)
            for _ in range(40):
                value = paper + chance.sample(parts, chance.randint(0, min(4, len(parts))))
                if chance.random() < 0.4:
                    value.remove(chance.choice(value))
                chance.shuffle(value)
                expected = is_paper(form, facts, value)
                right += expected
                self.assert_same(is_stands_paper(form, facts, value), expected)
        self.assertGreater(right, 200)

    def test_one_thing_changed(self):
        for at, (seen, kept) in enumerate(self.right):
            for value in [(kept, seen), (seen[:-1], kept), (seen[1:], kept), (seen, kept[1:]), (tuple(FIELDS), kept), (seen, ())]:
                for paper in [[*self.right[:at], value, *self.right[at + 1:]], [*self.right, value]]:
                    self.assert_paper(paper, is_paper(BILL, FACTS, paper))

    def test_one_thing_of_another_kind(self):
        for at, (seen, kept) in enumerate(self.right):
            changed = [(seen,), (seen, kept, ()), [seen, kept], (list(seen), kept), (seen, list(kept)), None, (None, kept), (seen, None),
                       (seen[::-1], kept), (seen[::-1], kept[::-1]), (seen, (*kept, "x")), ((*seen, "x"), kept), (seen, (*kept, *kept)),
                       ((*seen, *seen), kept), (seen, (1,)), (("NET",), ()), EqualToAll(), Odd(), (EqualToAll(),) * 2,
                       (seen, EqualToAll()), ((EqualToAll(),), ()), "ab", b"ab", {seen: kept}, True, 0, ((seen, kept),)]
            for value in changed:
                if not same(value, (seen, kept)):
                    self.assert_paper([*self.right[:at], value, *self.right[at + 1:]], False)
                    self.assert_paper([*self.right, value], False)

    def test_other_facts(self):
        # Fewer facts let more fields follow.
        self.assert_same(is_stands_paper(BILL, FACTS[:1], self.right), False)
        self.assert_same(is_stands_paper(BILL, [], self.right), False)
        self.assert_paper(stands_paper(BILL, []), True)
        self.assert_same(is_stands_paper(BILL, [*FACTS, ("net", "gross")], self.right), True)
        self.assert_same(is_stands_paper(Form(FIELDS, {}), FACTS, self.right), False)

    def test_values_of_any_kind(self):
        for value in [*NO_LISTS, [], (), [None], [()], [[]], ["ab"], EqualToAll(), Odd(), [EqualToAll()], BILL, FACTS, [((),)], [((), ())],
                      {((), ()): 1}, [((), ()), None], set(self.right), dict(self.right), [self.right]]:
            self.assert_paper(value, False)

    def test_the_paper_stays(self):
        told = copy.deepcopy(self.right)
        self.assert_paper(self.right, True)
        self.assert_same(self.right, told)
