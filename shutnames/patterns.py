"""Patterns: fillings of their holes that make them alike to terms."""

from shutnames.asking import comes_of
from shutnames.errors import NoFacts, NotApart
from shutnames.facts import least_facts
from shutnames.fillings import check_facts
from shutnames.terms import check_term, holes_within, turned
from shutnames.turns import undone


def fitted(pattern, term):
    """A dict from the pattern's holes to what stands at them in the term, and the asks that must hold besides.

    Both sides of such an ask are of the term, whose holes are never filled. None where no filling whatever does.
    """
    put = {}
    beside = []
    waiting = [("alike", pattern, term)]
    while waiting:
        ask = waiting.pop()
        kind, one, other = ask
        if kind == "fresh":
            beside.append(ask)
        elif one[0] == "hole":
            there = turned(undone(one[1]), other)
            if one[2] in put:
                beside.append(("alike", put[one[2]], there))
            else:
                put[one[2]] = there
        else:
            comes = comes_of(ask)
            if comes is None:
                return None
            waiting.extend(comes[1])
    return (put, beside)


def filling_dict(pattern, term, known, fresh, asked):
    """A dict that fills the pattern's holes so that it is alike to the term; None where none does.

    This must hold, and the facts asked must come of the filling, under the facts that are keys of the dict known and
    where the names of the list fresh are free in no hole.
    """
    fit = fitted(pattern, term)
    if fit is None:
        return None
    put, beside = fit
    needed = least_facts(beside + [("fresh", name, put[hole]) for name, hole in asked])
    if needed is None or not all([fact in known or fact[0] in fresh for fact in needed]):
        return None
    return put


def check_pattern(pattern, term, facts, asked):
    """Refuse what can't be matched."""
    check_term(pattern)
    check_term(term)
    holes = holes_within(pattern)
    if [hole for hole in holes_within(term) if hole in holes]:
        raise NotApart("the pattern and the term have a hole in common")
    check_facts(facts)
    check_facts(asked)
    if not all([hole in holes for _, hole in asked]):
        raise NoFacts("a fact is asked of no hole of the pattern")


def matched(pattern, term, *, facts=(), asked=()):
    """A filling of the pattern's holes that makes it alike to the term under the facts; None where none does."""
    check_pattern(pattern, term, facts, asked)
    put = filling_dict(pattern, term, {fact: True for fact in facts}, [], asked)
    return None if put is None else tuple(sorted(put.items()))
