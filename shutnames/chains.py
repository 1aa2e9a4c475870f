"""Chains of uses from one term to another, and which terms are the same by rules."""

from shutnames.alike import check_plain, named, leveled, same_levels
from shutnames.bounds import MOST_USES
from shutnames.errors import NotGood
from shutnames.terms import holes_within, is_term
from shutnames.uses import ended_beside, led_by
from shutnames.verdicts import verdict


def is_link(rules, ahead, thing):
    """Whether a thing is a link of a chain behind this term."""
    if not isinstance(thing, tuple) or len(thing) != 4:
        return False
    way, place, number, term = thing
    if way not in ("on", "back") or not is_term(term) or holes_within(term):
        return False
    begin, end = (ahead, term) if way == "on" else (term, ahead)
    led = led_by(begin, rules, place, number)
    return led is not None and same_levels(led, end)


def chain_lets(rules, one, other, chain):
    """Whether a thing is a chain of uses, on and back, from one plain term to the other."""
    check_plain([one, other])
    if not isinstance(chain, list):
        return False
    ahead = one
    for link in chain:
        if not is_link(rules, ahead, link):
            return False
        ahead = link[3]
    return same_levels(ahead, other)


def terms_on(term, rules, uses):
    """The terms to which uses lead from a plain term, one after the other, this term ahead of them."""
    terms = [term]
    for place, number in uses:
        terms.append(led_by(terms[-1], rules, place, number))
    return terms


def same(one, other, rules, weighing):
    """Whether two plain terms are the same by a good book: a chain from one to the other, or their unlike ends."""
    check_plain([one, other])
    told = verdict(rules, weighing)
    if told[0] != "good":
        raise NotGood(told)
    end, _, uses = ended_beside(one, rules, (), MOST_USES, {})
    other_end, _, other_uses = ended_beside(other, rules, (), MOST_USES, {})
    if not same_levels(end, other_end):
        return ("unlike", named(leveled(end)), named(leveled(other_end)))
    on = terms_on(one, rules, uses)
    back = terms_on(other, rules, other_uses)
    links = [("on", place, number, term) for (place, number), term in zip(uses, on[1:])]
    returns = [("back", place, number, term) for (place, number), term in zip(other_uses, back)]
    return ("same", links + returns[::-1])
