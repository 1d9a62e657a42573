"""Rows that are known in part: what may be kept, and what is sure, if only some facts of the order are known."""

from keptlast.checks import check_lot
from keptlast.errors import Contradicted, InvalidFacts, TooMany
from keptlast.forms import shape_of
from keptlast.kinds import is_list, is_lot_of
from keptlast.shapes import in_order, with_next

MOST_FIELDS_OF_FACTS = 6


def possible(form, facts):
    """The list of the lots that are kept behind some row whose order keeps the facts, in the order of lots."""
    shape = shape_of(form)
    return [shape.lot_of(number) for number in _possible_numbers(form, facts)]


def sure(form, facts):
    """The lot of the fields that are in all possible lots."""
    lots = possible(form, facts)
    return tuple([field for field in form.fields if all([field in lot for lot in lots])])


def lost(form, facts):
    """The lot of the fields that are in no possible lot."""
    lots = possible(form, facts)
    return tuple([field for field in form.fields if not any([field in lot for lot in lots])])


def order_for(form, facts, lot):
    """An order that keeps the facts and in which just this lot is kept, or None if there is none."""
    check_facts(form, facts)
    check_lot(form, lot)
    found = _beginnings(form, facts)
    wanted = (shape_of(form).number_of(form.fields), shape_of(form).number_of(lot))
    return list(found[wanted]) if wanted in found else None


def stands_paper(form, facts):
    """A stands paper of the facts: just the tuples that some order leads to."""
    shape = shape_of(form)
    return [(shape.lot_of(seen), shape.lot_of(kept)) for seen, kept in _beginnings(form, facts)]


def is_stands_paper(form, facts, value):
    """Whether any value is a stands paper of the facts."""
    check_known(form, facts)
    if not is_list(value) or not all([_is_stand(form, part) for part in value]):
        return False
    shape = shape_of(form)
    states = {(shape.number_of(seen), shape.number_of(kept)): True for seen, kept in value}
    if (0, 0) not in states:
        return False
    stays = shape.stays()
    ahead = _directly_ahead(form, facts)
    return all([_gone_on(stays, state, bit) in states
                for state in states for bit in ahead if _may_follow(ahead, state, bit)])


def check_facts(form, facts):
    """InvalidFacts unless the facts are a list of tuples of two fields of the form."""
    if not is_list(facts):
        raise InvalidFacts(None)
    for at, fact in enumerate(facts):
        if not isinstance(fact, tuple) or len(fact) != 2 or fact[0] not in form or fact[1] not in form:
            raise InvalidFacts(at)


def check_known(form, facts):
    """InvalidFacts, then TooMany, then Contradicted, unless some order of not too many fields keeps the facts."""
    check_facts(form, facts)
    if len(form.fields) > MOST_FIELDS_OF_FACTS:
        raise TooMany("fields", MOST_FIELDS_OF_FACTS)
    for field in form.fields:
        if field in _all_ahead(facts, field):
            raise Contradicted(field)


def _all_ahead(facts, field):
    """All fields that the facts put ahead of a field, directly or by way of others."""
    found = []
    fresh = [newer for newer, elder in facts if elder == field]
    while len(fresh) > 0:
        found = [*found, *fresh]
        fresh = [newer for newer, elder in facts if elder in found and newer not in found]
    return found


def _directly_ahead(form, facts):
    """The dict from the numbers of the fields to those of the lots that facts put directly ahead of them."""
    shape = shape_of(form)
    return {shape.number_of([field]): shape.number_of([newer for newer, elder in facts if elder == field])
            for field in form.fields}


def _may_follow(ahead, state, bit):
    """Whether an order that keeps the facts may go on with a field."""
    return state[0] & bit == 0 and ahead[bit] & ~state[0] == 0


def _gone_on(stays, state, bit):
    """Where an order leads that goes on with a field that is not seen yet."""
    seen, kept = state
    return seen | bit, with_next(stays, kept, bit)


def _beginnings(form, facts):
    """The dict from tuples (seen, kept), as numbers, to beginnings of orders that keep the facts and lead there."""
    check_known(form, facts)
    shape = shape_of(form)
    stays = shape.stays()
    ahead = _directly_ahead(form, facts)
    found = {}
    fronts = {(0, 0): ()}
    while len(fronts) > 0:
        for state in fronts:
            found[state] = fronts[state]
        # All of these have seen one field more, so none of them was found before.
        fronts = {_gone_on(stays, state, bit): (*fronts[state], *shape.lot_of(bit))
                  for state in fronts for bit in ahead if _may_follow(ahead, state, bit)}
    return found


def _possible_numbers(form, facts):
    """The numbers of the possible lots, in the order of lots."""
    full = shape_of(form).number_of(form.fields)
    return in_order([kept for seen, kept in _beginnings(form, facts) if seen == full], len(form.fields))


def _is_stand(form, value):
    """Whether any value is a tuple (seen, kept) of two lots, seen containing kept."""
    if not isinstance(value, tuple) or len(value) != 2:
        return False
    seen, kept = value
    return is_lot_of(form.fields, seen) and is_lot_of(seen, kept)
