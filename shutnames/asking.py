"""Asks, and what comes of one where no hole is filled."""

from shutnames.errors import NoAsk
from shutnames.names import is_name
from shutnames.terms import holes_within, is_term, turned
from shutnames.turns import led_apart, turn_of, undone


def is_ask(thing):
    """Whether a thing is an ask."""
    if not isinstance(thing, tuple) or len(thing) != 3 or not is_term(thing[2]):
        return False
    if thing[0] == "alike":
        return is_term(thing[1])
    return thing[0] == "fresh" and is_name(thing[1])


def check_ask(thing):
    """Refuse what is no ask."""
    if not is_ask(thing):
        raise NoAsk("this is no ask")


def check_asks(things):
    """Refuse what is no list of asks."""
    if not isinstance(things, list):
        raise NoAsk("this is no list of asks")
    for thing in things:
        check_ask(thing)


def terms_asked(ask):
    """The terms of the ask."""
    return [ask[1], ask[2]] if ask[0] == "alike" else [ask[2]]


def holes_asked(ask):
    """The holes of the ask, in any order, some perhaps twice."""
    return [hole for term in terms_asked(ask) for hole in holes_within(term)]


def fact_asked(ask):
    """The one fact that the ask is, where it asks for a name to be fresh in a hole; else None."""
    kind, name, term = ask
    if kind != "fresh" or term[0] != "hole":
        return None
    return (dict(undone(term[1])).get(name, name), term[2])


def comes_of_shuts(one, other):
    """The asks to which it comes down that two shuts are alike."""
    if one[1] == other[1]:
        return [("alike", one[2], other[2])]
    exchange = turn_of([(one[1], other[1])])
    return [("alike", one[2], turned(exchange, other[2])), ("fresh", one[1], other[2])]


def comes_of_alike(one, other):
    """The asks to which it comes down that two terms are alike; None where no facts make them so."""
    if one[0] != other[0]:
        return None
    if one[0] == "shut":
        return comes_of_shuts(one, other)
    if one[0] == "name":
        return [] if one[1] == other[1] else None
    if one[0] == "hole":
        apart = led_apart(dict(one[1]), dict(other[1]))
        return [("fresh", name, ("hole", (), one[2])) for name in apart] if one[2] == other[2] else None
    if one[1] != other[1] or len(one[2]) != len(other[2]):
        return None
    return [("alike", part, beside) for part, beside in zip(one[2], other[2])]


def comes_of_fresh(name, term):
    """The asks to which it comes down that the name isn't free in a term that is no hole; None where it is."""
    if term[0] == "name":
        return [] if term[1] != name else None
    if term[0] == "shut":
        return [("fresh", name, term[2])] if term[1] != name else []
    return [("fresh", name, part) for part in term[2]]


def comes_of(ask):
    """The facts and the asks, a list each, to which an ask comes down where no hole is filled; None where to none."""
    fact = fact_asked(ask)
    if fact is not None:
        return ([fact], [])
    kind, one, other = ask
    asks = comes_of_alike(one, other) if kind == "alike" else comes_of_fresh(one, other)
    return None if asks is None else ([], asks)
