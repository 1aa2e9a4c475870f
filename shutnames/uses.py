"""Rules used: the steps that lead on from a term, and its end."""

from shutnames.bounds import MOST_USES
from shutnames.errors import NoPlace, TooLong
from shutnames.fillings import check_facts, filled_by
from shutnames.names import is_number
from shutnames.patterns import filling_dict
from shutnames.renewing import made_new
from shutnames.rows import changed, parts_in, places_in, with_parts
from shutnames.terms import check_term, holes_within, names_at, parts_down, put_down
from shutnames.turns import eased


def head_of(part):
    """What the heads of a left side and of a part that it fits have in common; None where no left side fits."""
    if part[0] == "sign":
        return ("sign", part[1], len(part[2]))
    return ("shut",) if part[0] == "shut" else None


def names_within(term):
    """A dict whose keys are all names that stand in the term."""
    return {name: True for part in parts_in(term) for name in names_at(part)}


def new_rules(term, rules, facts, beside):
    """The rules with new names and holes beside the term and the facts: lists of them, by the heads of left sides.

    Each is told with its number, and with its new names. Those are none of the names of the dict beside either.
    """
    holes = holes_within(term)
    taken = {**beside, **names_within(term), **{name: True for name, _ in facts}}
    found = {}
    for number, rule in enumerate(rules):
        new_rule, new_names = made_new(rule, taken, holes)
        found.setdefault(head_of(rule[1]), []).append((number, new_rule, new_names))
    return found


def eased_part(bars, part, told):
    """The part, a hole's turn leading just those names as it did that aren't barred from the hole by a dict."""
    if part[0] == "hole":
        return ("hole", eased(part[1], bars[part[2]]), part[2])
    return with_parts(part, told)


def eased_term(term, known, new_names):
    """A term alike to this one under the known facts and those of the new names that stand outside of turns.

    Fewer names stand in its turns, which else would get longer at each use.
    """
    outside = {part[1]: True for part in parts_in(term) if part[0] in ("name", "shut")}
    fresh = [name for name in new_names if name in outside]
    bars = {hole: {new: True for new in fresh} for hole in holes_within(term)}
    if not bars:
        return term
    for name, hole in known:
        if hole in bars:
            bars[hole][name] = True
    return changed(term, lambda part, told: eased_part(bars, part, told))


def step_at(term, place, part, new_rule, known):
    """The step to which a rule, as new_rules tells it, leads at the place; None where it doesn't lead on.

    The facts handed in are a dict's keys.
    """
    number, (asked, left, right), new_names = new_rule
    put = filling_dict(left, part, known, new_names, asked)
    if put is None:
        return None
    told = put_down(term, place, eased_term(filled_by(put, right), known, new_names))
    there, holes = names_within(told), holes_within(told)
    # No fact that is known is of a new name: so none comes twice.
    more = [(name, hole) for name in new_names if name in there for hole in holes]
    return (place, number, told, tuple(sorted(list(known) + more)))


def chances(term, rules, facts, beside):
    """All places of the term, rising, each with its part and with each rule whose left side has a head like it."""
    by_head = new_rules(term, rules, facts, beside)
    rows = list(zip(places_in(term), parts_in(term)))
    return [(place, part, new_rule) for place, part in rows for new_rule in by_head.get(head_of(part), ())]


def first_step(term, rules, facts, beside):
    """The first step that leads on from the term, its new names being none of a dict's; None where none does."""
    known = {fact: True for fact in facts}
    for place, part, new_rule in chances(term, rules, facts, beside):
        step = step_at(term, place, part, new_rule, known)
        if step is not None:
            return step
    return None


def steps_of(term, rules, *, facts=()):
    """The list of all steps that lead on from the term, rising by their places and then by the rules' numbers."""
    check_term(term)
    check_facts(facts)
    known = {fact: True for fact in facts}
    steps = [step_at(term, place, part, new_rule, known) for place, part, new_rule in chances(term, rules, facts, {})]
    return [step for step in steps if step is not None]


def led_by(term, rules, place, number):
    """What a rule leads to at a place of the plain term, these two being anything; None where it doesn't lead on."""
    if not isinstance(place, tuple) or not is_number(number) or not 0 <= number < len(rules):
        return None
    try:
        part = parts_down(term, place)[-1]
    except NoPlace:
        return None
    step = step_at(term, place, part, (number,) + made_new(rules[number], names_within(term), []), {})
    return None if step is None else step[2]


def ended_beside(term, rules, facts, most, beside):
    """What ended tells, with new names that are none of the names of the dict beside."""
    uses = []
    step = first_step(term, rules, facts, beside)
    while step is not None:
        if len(uses) >= most:
            raise TooLong(most)
        place, number, term, facts = step
        uses.append((place, number))
        step = first_step(term, rules, facts, beside)
    return (term, facts, uses)


def ended(term, rules, *, facts=(), most=MOST_USES):
    """The term and the facts to which the first steps lead till there is none, and the list of their uses."""
    check_term(term)
    check_facts(facts)
    return ended_beside(term, rules, facts, most, {})
