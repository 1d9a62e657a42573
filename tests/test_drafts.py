"""The interface section keptlast/drafts.py."""

from keptlast.drafts import Draft, Trial, tried
from keptlast.errors import (Barred, InvalidFields, InvalidForm, InvalidName, InvalidRule, InvalidRules, NothingToUndo,
                             TooMany, UnknownRule)
from keptlast.forms import Form
from keptlast.rules import Loose
from models import NO_LISTS
from support import Case, EqualToAll, Odd
from test_form_operators import NO_FORMS
from test_forms import ADDING, BILL, FIELDS, NO_NAMES, NO_RULES, SHARING, ten

OTHER = Loose(["net", "more"], ways=["more"])


def told(draft):
    return [draft.sequence, draft.names(), [draft[name] for name in draft.names()], len(draft)]


def changes_of(draft):
    """All that a draft is and was, from now back to its beginning: what can be taken back is taken back."""
    found = [told(draft)]
    try:
        while True:
            draft.undo()
            found.append(told(draft))
    except NothingToUndo:
        return found


class DraftCase(Case):
    def assert_nothing_to_undo(self, draft):
        self.assert_raises(NothingToUndo, [], draft.undo)

    def assert_unchanged_by(self, error, values, draft, action):
        before = told(draft)
        self.assert_raises(error, values, action, draft)
        self.assert_same(told(draft), before)
        self.assert_nothing_to_undo(draft)


class TestDraft(DraftCase):
    def test_begins_with_nothing(self):
        for draft in [Draft(), Draft(None), Draft(form=None)]:
            self.assert_same(told(draft), [(), [], [], 0])
            self.assert_nothing_to_undo(draft)

    def test_begins_with_a_form(self):
        for draft in [Draft(BILL), Draft(form=BILL)]:
            self.assert_same(told(draft), [tuple(FIELDS), ["share", "sum"], [SHARING, ADDING], 2])
            self.assertEqual(draft.made(), BILL)
            self.assert_nothing_to_undo(draft)

    def test_no_forms(self):
        for value in [*NO_FORMS[1:], Draft()]:
            self.assert_raises(InvalidForm, [value], Draft, value)

    def test_items(self):
        draft = Draft(BILL)
        draft["more"] = OTHER
        draft["sum"] = SHARING
        self.assert_same(draft.names(), ["more", "share", "sum"])
        self.assertIs(draft["more"], OTHER)
        self.assertIs(draft["sum"], SHARING)
        self.assert_same([len(draft), draft.sequence], [3, tuple(FIELDS)])

    def test_wrong_items(self):
        for value in [*NO_NAMES, ()]:
            self.assert_unchanged_by(InvalidName, [value], Draft(BILL), lambda draft: draft.__setitem__(value, ADDING))
            self.assert_unchanged_by(InvalidName, [value], Draft(BILL), lambda draft: draft.__setitem__(value, None))
        for value in [*NO_RULES, "sum a = 0", Loose]:
            self.assert_unchanged_by(InvalidRule, [value], Draft(BILL), lambda draft: draft.__setitem__("a", value))
            self.assert_unchanged_by(InvalidRule, [value], Draft(BILL), lambda draft: draft.__setitem__("sum", value))

    def test_unknown_rules(self):
        for value in [*NO_NAMES, "net", "su", BILL]:
            self.assert_unchanged_by(UnknownRule, [value], Draft(BILL), lambda draft: draft[value])
            self.assert_unchanged_by(UnknownRule, [value], Draft(BILL), lambda draft: draft.__isub__(value))

    def test_no_iteration(self):
        with self.assertRaises(TypeError):
            iter(Draft(BILL))

    def test_sequence(self):
        draft = Draft(BILL)
        for fields in [["a", "b"], ("b", "a"), [], (), [f"f{at}" for at in range(300)]]:
            draft.sequence = fields
            self.assert_same(draft.sequence, tuple(fields))
            self.assert_same(draft.set_fields(["net"]), None)
            self.assert_same(draft.sequence, ("net",))
            self.assert_same(draft.set_fields(fields=fields), None)
            self.assert_same(draft.sequence, tuple(fields))
        self.assert_same(draft.names(), ["share", "sum"])

    def test_wrong_sequences(self):
        for value in [*NO_LISTS, Odd(), EqualToAll()]:
            self.assert_unchanged_by(InvalidFields, [None], Draft(BILL), lambda draft: draft.set_fields(value))
            self.assert_unchanged_by(InvalidFields, [None], Draft(BILL), lambda draft: setattr(draft, "sequence", value))
        for value in NO_NAMES:
            self.assert_unchanged_by(InvalidFields, [0], Draft(BILL), lambda draft: draft.set_fields([value]))
            self.assert_unchanged_by(InvalidFields, [1], Draft(), lambda draft: setattr(draft, "sequence", ("a", value, "a")))
        self.assert_unchanged_by(InvalidFields, [2], Draft(BILL), lambda draft: draft.set_fields(["a", "b", "a", "b"]))

    def test_what_is_passed_is_copied_and_stays(self):
        draft, fields, rules = Draft(), ["b", "a"], {"q": Loose(["b"]), "p": Loose(["a"])}
        draft.sequence = fields
        draft += rules
        self.assert_same([fields, list(rules)], [["b", "a"], ["q", "p"]])
        fields.append("c")
        rules["r"] = ADDING
        rules["p"] = ADDING
        del rules["q"]
        draft.names().append("x")
        self.assert_same(told(draft), [("b", "a"), ["p", "q"], [Loose(["a"]), Loose(["b"])], 2])
        self.assertIsNot(draft.names(), draft.names())

    def test_rules_are_put_in(self):
        draft = held = Draft(BILL)
        draft += {"z": OTHER, "sum": SHARING}
        self.assertIs(draft, held)
        self.assert_same(told(draft), [tuple(FIELDS), ["share", "sum", "z"], [SHARING, SHARING, OTHER], 3])
        draft += {}
        self.assert_same(len(draft), 3)

    def test_wrong_rules(self):
        no_dicts = [value for value in NO_LISTS if not isinstance(value, dict)]
        for value in [*no_dicts, [("a", ADDING)], ADDING, BILL, Draft(), Odd(), EqualToAll()]:
            self.assert_unchanged_by(InvalidRules, [None], Draft(BILL), lambda draft: draft.__iadd__(value))
        for key in ["", "A", "abcdefghi", "a b", b"a", None, True, 1, ("a",)]:
            self.assert_unchanged_by(InvalidRules, [None], Draft(), lambda draft: draft.__iadd__({"a": None, key: ADDING}))
        for value in NO_RULES:
            rules = {"z": None, "a": ADDING, "m": value, "sum": SHARING}
            self.assert_unchanged_by(InvalidRules, ["m"], Draft(BILL), lambda draft: draft.__iadd__(rules))
        self.assert_unchanged_by(InvalidRules, ["a10"], Draft(), lambda draft: draft.__iadd__({"a9": 1, "a10": 1}))

    def test_signs_raise_the_errors_too(self):
        draft = Draft(BILL)
        with self.assertRaises(InvalidRules):
            draft += [ADDING]
        with self.assertRaises(UnknownRule):
            draft -= "net"
        self.assertEqual(draft.made(), BILL)

    def test_a_rule_is_taken_out(self):
        draft = held = Draft(BILL)
        draft -= "sum"
        self.assertIs(draft, held)
        self.assert_same(told(draft), [tuple(FIELDS), ["share"], [SHARING], 1])
        draft -= "share"
        self.assert_same(draft.names(), [])
        self.assert_raises(UnknownRule, ["share"], draft.__isub__, "share")

    def test_names_are_sorted(self):
        draft = Draft()
        for name in ["b", "a10", "a9", "a"]:
            draft[name] = OTHER
        self.assert_same(draft.names(), ["a", "a10", "a9", "b"])

    def test_a_draft_by_attributes_of_another_one(self):
        held = [Draft(BILL), Draft()]
        held[0].sequence = ["a"]
        held[1].sequence = held[0].sequence
        self.assert_same([one.sequence for one in held], [("a",), ("a",)])


class TestMade(DraftCase):
    def test_made(self):
        draft = Draft()
        draft.sequence = FIELDS
        draft["sum"] = ADDING
        draft += {"share": SHARING}
        self.assertIs(type(draft.made()), Form)
        self.assertEqual(draft.made(), BILL)

    def test_errors_of_the_class(self):
        draft = Draft()
        self.assert_raises(InvalidFields, [None], draft.made)
        draft["sum"] = ADDING
        self.assert_raises(InvalidFields, [None], draft.made)
        draft.sequence = ["net", "tax"]
        self.assert_raises(InvalidRules, ["sum"], draft.made)
        draft.sequence = [*ten(), "net", "tax", "gross"]
        self.assert_raises(TooMany, ["fields", 10], draft.made)
        draft.sequence = FIELDS
        draft += {f"r{at}": ADDING for at in range(6)}
        self.assert_raises(TooMany, ["rules", 6], draft.made)
        draft -= "r5"
        self.assert_raises(Barred, [("r0", "r1")], draft.made)
        for name in ["r0", "r1", "r2", "r3", "r4"]:
            draft -= name
        self.assertEqual(draft.made(), Form(FIELDS, {"sum": ADDING}))

    def test_forms_stay_as_they_were(self):
        start = Form(FIELDS, {"sum": ADDING, "share": SHARING})
        draft = Draft(start)
        draft["sum"] = SHARING
        draft -= "share"
        made = draft.made()
        draft += {"more": Loose(["net"])}
        draft.sequence = ["net", "tax", "rate"]
        other = draft.made()
        draft.undo()
        draft.undo()
        draft["sum"] = OTHER
        self.assertEqual(start, BILL)
        self.assertEqual(made, Form(FIELDS, {"sum": SHARING}))
        self.assertEqual(other, Form(["net", "tax", "rate"], {"sum": SHARING, "more": Loose(["net"])}))

    def test_making_is_no_change(self):
        draft = Draft(BILL)
        draft.made()
        self.assert_nothing_to_undo(draft)


def change_all(draft):
    """Changes of all kinds, also those that change nothing; what the draft was ahead of each of them."""
    found = []
    for change in [lambda one: setattr(one, "sequence", ["a", "b"]), lambda one: one.set_fields(["c"]),
                   lambda one: one.set_fields(one.sequence), lambda one: setattr(one, "sequence", one.sequence),
                   lambda one: one.__setitem__("new", OTHER), lambda one: one.__setitem__("sum", OTHER),
                   lambda one: one.__setitem__("sum", OTHER), lambda one: one.__iadd__({"x": ADDING, "share": ADDING}),
                   lambda one: one.__iadd__({}), lambda one: one.__iadd__({"x": ADDING}), lambda one: one.__isub__("x"),
                   lambda one: one.__isub__("sum")]:
        found.append(told(draft))
        change(draft)
    return found


class TestUndo(DraftCase):
    def test_each_kind_of_change(self):
        draft = Draft(BILL)
        ahead = change_all(draft)
        for before in reversed(ahead):
            self.assert_same(draft.undo(), None)
            self.assert_same(told(draft), before)
        self.assert_nothing_to_undo(draft)
        self.assertEqual(draft.made(), BILL)

    def test_by_signs(self):
        draft = Draft(BILL)
        draft += {"more": OTHER}
        draft -= "sum"
        draft["more"] = SHARING
        draft.undo()
        self.assert_same(told(draft), [tuple(FIELDS), ["more", "share"], [OTHER, SHARING], 2])
        draft.undo()
        self.assert_same(draft.names(), ["more", "share", "sum"])
        draft.undo()
        self.assertEqual(draft.made(), BILL)
        self.assert_nothing_to_undo(draft)
        self.assert_nothing_to_undo(draft)

    def test_changes_behind_an_undo(self):
        draft = Draft()
        draft.sequence = ["a"]
        draft.sequence = ["b"]
        draft.undo()
        draft.sequence = ["c"]
        draft.undo()
        self.assert_same(draft.sequence, ("a",))
        draft.undo()
        self.assert_same(draft.sequence, ())
        self.assert_nothing_to_undo(draft)

    def test_many_changes(self):
        draft = Draft()
        for at in range(140):
            draft.sequence = [f"f{at}"]
        for at in range(139, -1, -1):
            self.assert_same(draft.sequence, (f"f{at}",))
            draft.undo()
        self.assert_nothing_to_undo(draft)


class TestCopy(DraftCase):
    def test_a_copy_is_equal_in_all(self):
        draft = Draft(BILL)
        ahead = change_all(draft)
        twin = draft.copy()
        self.assertIs(type(twin), Draft)
        self.assertIsNot(twin, draft)
        now = told(draft)
        self.assert_same(changes_of(twin), [now, *reversed(ahead)])
        self.assert_same(told(draft), now)
        self.assert_same(changes_of(draft), [now, *reversed(ahead)])

    def test_a_copy_changes_by_itself(self):
        draft = Draft(BILL)
        draft["more"] = OTHER
        twin = draft.copy()
        twin -= "sum"
        twin.sequence = ["a"]
        draft += {"x": ADDING}
        self.assert_same(told(twin), [("a",), ["more", "share"], [OTHER, SHARING], 2])
        self.assert_same(told(draft), [tuple(FIELDS), ["more", "share", "sum", "x"], [OTHER, SHARING, ADDING, ADDING], 4])
        self.assert_same([len(changes_of(twin)), len(changes_of(draft))], [4, 3])


class Stop(Exception):
    pass


class TestTrial(DraftCase):
    def test_behind_the_block_all_is_as_it_was(self):
        for draft in [Draft(), Draft(BILL)]:
            with Trial(draft) as held:
                self.assertIs(held, draft)
                held["sum"] = OTHER
                change_all(held)
                self.assertGreater(len(held), 0)
            self.assert_nothing_to_undo(draft)
        self.assertEqual(draft.made(), BILL)

    def test_what_was_taken_back_can_be_taken_back_again(self):
        draft = Draft(BILL)
        ahead = change_all(draft)
        now = told(draft)
        with Trial(draft=draft) as held:
            held.undo()
            held.undo()
            held["z"] = ADDING
        self.assert_same(told(draft), now)
        self.assert_same(changes_of(draft), [now, *reversed(ahead)])

    def test_signs_within_the_block(self):
        draft = Draft(BILL)
        with Trial(draft) as held:
            held += {"z": ADDING}
            draft -= "sum"
            self.assert_same(held.names(), ["share", "z"])
        self.assertEqual(draft.made(), BILL)

    def test_an_error_goes_on(self):
        draft, stop = Draft(BILL), Stop()
        with self.assertRaises(Stop) as caught:
            with Trial(draft) as held:
                held -= "sum"
                raise stop
        self.assertIs(caught.exception, stop)
        self.assert_same(told(draft), [tuple(FIELDS), ["share", "sum"], [SHARING, ADDING], 2])
        with self.assertRaises(UnknownRule):
            with Trial(draft) as held:
                held -= "sum"
                held -= "sum"
        self.assertEqual(draft.made(), BILL)
        self.assert_nothing_to_undo(draft)

    def test_trials_within_trials(self):
        draft = Draft()
        draft.sequence = ["a"]
        with Trial(draft) as outer:
            outer.sequence = ["b"]
            with self.assertRaises(Stop):
                with Trial(outer) as inner:
                    inner.sequence = ["c"]
                    inner.undo()
                    inner.undo()
                    inner.undo()
                    with Trial(draft):
                        draft["x"] = ADDING
                    self.assert_same(told(draft), [(), [], [], 0])
                    raise Stop()
            self.assert_same(draft.sequence, ("b",))
            draft.undo()
            self.assert_same(draft.sequence, ("a",))
        self.assert_same(changes_of(draft), [[("a",), [], [], 0], [(), [], [], 0]])

    def test_a_trial_is_entered_again(self):
        draft = Draft()
        trial = Trial(draft)
        for fields in [["a"], ["b"]]:
            draft.sequence = fields
            with trial as held:
                held.sequence = ["c"]
                held.undo()
                held.undo()
            self.assert_same(draft.sequence, tuple(fields))
        self.assert_same(len(changes_of(draft)), 3)

    def test_a_trial_begins_where_its_block_begins(self):
        draft = Draft()
        trial = Trial(draft)
        draft.sequence = ["a"]
        with trial:
            draft.sequence = ["b"]
        self.assert_same(draft.sequence, ("a",))


class TestTried(DraftCase):
    def test_the_answer_is_returned(self):
        draft = Draft(BILL)
        answer = ["x"]

        def action(held):
            self.assertIs(held, draft)
            held -= "sum"
            answer.append(held.names())
            return answer

        self.assertIs(tried(draft, action), answer)
        self.assert_same(answer, ["x", ["share"]])
        self.assertEqual(draft.made(), BILL)
        self.assert_nothing_to_undo(draft)

    def test_by_names(self):
        self.assert_same(tried(action=lambda held: len(held), draft=Draft(BILL)), 2)
        self.assert_same(tried(Draft(BILL), lambda held: None), None)

    def test_an_error_goes_on(self):
        draft, stop = Draft(BILL), Stop()
        draft["more"] = OTHER

        def action(held):
            held.undo()
            held.sequence = []
            raise stop

        with self.assertRaises(Stop) as caught:
            tried(draft, action)
        self.assertIs(caught.exception, stop)
        self.assert_same(draft.names(), ["more", "share", "sum"])
        self.assert_same(len(changes_of(draft)), 2)

    def test_within_another_one(self):
        draft = Draft(BILL)

        def outer(held):
            held -= "sum"
            found = tried(held, lambda inner: inner.undo() or inner.names())
            return found, held.names()

        self.assert_same(tried(draft, outer), (["share", "sum"], ["share"]))
        self.assertEqual(draft.made(), BILL)
