"""Fillings of holes, and the facts that plain ones keep."""

from shutnames.alike import free_within
from shutnames.errors import NoFacts, NoFilling
from shutnames.names import is_hole, is_name, rises
from shutnames.rows import changed, with_parts
from shutnames.terms import check_term, holes_within, is_term, turned


def is_filling(thing):
    """Whether a thing is a filling."""
    if not isinstance(thing, tuple):
        return False
    for pair in thing:
        if not isinstance(pair, tuple) or len(pair) != 2 or not is_hole(pair[0]) or not is_term(pair[1]):
            return False
    return rises([hole for hole, _ in thing])


def is_plain_filling(thing):
    """Whether a thing is a filling with plain terms."""
    return is_filling(thing) and not any([holes_within(term) for _, term in thing])


def is_fact(thing):
    """Whether a thing is a tuple of a name and a hole."""
    return isinstance(thing, tuple) and len(thing) == 2 and is_name(thing[0]) and is_hole(thing[1])


def is_facts(thing):
    """Whether a thing is a tuple of facts, rising."""
    return isinstance(thing, tuple) and all([is_fact(fact) for fact in thing]) and rises(thing)


def check_filling(thing):
    """Refuse what is no filling."""
    if not is_filling(thing):
        raise NoFilling("this is no filling")


def check_facts(thing):
    """Refuse what is no tuple of facts."""
    if not is_facts(thing):
        raise NoFacts("these are no facts")


def filled_part(put, part, told):
    """The part with other parts in it, or what is put in its place where it is a hole, led by its turn."""
    if part[0] == "hole" and part[2] in put:
        return turned(part[1], put[part[2]])
    return with_parts(part, told)


def filled_by(put, term):
    """The term filled by a dict from holes to terms, all known to be such."""
    return changed(term, lambda part, told: filled_part(put, part, told))


def filled(term, filling):
    """The term with each hole that is filled giving place to its term, led by the turn at which it stands."""
    check_term(term)
    check_filling(filling)
    return filled_by(dict(filling), term)


def then_filling(one, other):
    """The filling that does one and then the other."""
    check_filling(one)
    check_filling(other)
    put = dict(other)
    both = dict(other)
    for hole, term in one:
        both[hole] = filled_by(put, term)
    return tuple(sorted(both.items()))


def keeps_facts(put, facts):
    """Whether a dict from holes to plain terms fills the facts' holes with no fact's name free there."""
    free = {hole: free_within(term) for hole, term in put.items()}
    return all([hole in free and name not in free[hole] for name, hole in facts])


def keeps(filling, facts):
    """Whether the plain filling keeps the facts."""
    if not is_plain_filling(filling):
        raise NoFilling("this is no plain filling")
    check_facts(facts)
    return keeps_facts(dict(filling), facts)
