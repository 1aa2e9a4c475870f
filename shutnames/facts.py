"""What must be known of holes for an ask to be met."""

from shutnames.alike import free_within, same_levels
from shutnames.asking import check_ask, comes_of, holes_asked, terms_asked
from shutnames.fillings import check_facts, check_filling, filled_by, is_plain_filling, keeps_facts
from shutnames.names import names_beside
from shutnames.rows import parts_in


def least_facts(asks):
    """The least facts under which all asks of a list are met; None where no facts are enough."""
    found = []
    waiting = list(asks)
    while waiting:
        comes = comes_of(waiting.pop())
        if comes is None:
            return None
        found.extend(comes[0])
        waiting.extend(comes[1])
    return tuple(sorted(set(found)))


def needs(ask):
    """The least facts under which the ask is met; None where no facts are enough."""
    check_ask(ask)
    return least_facts([ask])


def needs_behind(facts, filling):
    """The least facts that a plain filling must keep so that, done behind this filling, it keeps the facts."""
    check_facts(facts)
    check_filling(filling)
    put = dict(filling)
    return least_facts([("fresh", name, put.get(hole, ("hole", (), hole))) for name, hole in facts])


def met_by(ask, put):
    """Whether a dict that fills all holes of the ask with plain terms meets it."""
    terms = [filled_by(put, term) for term in terms_asked(ask)]
    if ask[0] == "alike":
        return same_levels(terms[0], terms[1])
    return ask[1] not in free_within(terms[0])


def holes_of(ask, facts):
    """The rising list of the holes of ask and facts."""
    return sorted(set(holes_asked(ask) + [hole for _, hole in facts]))


def signs_apart(ask, holes):
    """A dict that fills each hole with a sign of its own that doesn't stand in the ask.

    Such terms are unlike one another and all that stands in the ask, and no name is free in them:
    they keep all facts, and meet no ask for which no facts are enough.
    """
    taken = [part[1] for term in terms_asked(ask) for part in parts_in(term) if part[0] == "sign"]
    signs = names_beside(taken, len(holes))
    return {hole: ("sign", sign, ()) for hole, sign in zip(holes, signs)}


def holds(ask, *, facts=()):
    """Whether the ask is met under the facts, with its needs, or with a filling that parts it."""
    check_ask(ask)
    check_facts(facts)
    needed = least_facts([ask])
    lacking = [fact for fact in needed or () if fact not in facts]
    if needed is not None and not lacking:
        return (True, needed)
    put = signs_apart(ask, holes_of(ask, facts))
    if lacking:
        name, hole = lacking[0]
        put[hole] = ("name", name)
    return (False, tuple(sorted(put.items())))


def parts_it(ask, filling, *, facts=()):
    """Whether a thing is a plain filling of all holes there that keeps the facts and doesn't meet the ask."""
    check_ask(ask)
    check_facts(facts)
    if not is_plain_filling(filling):
        return False
    put = dict(filling)
    if not all([hole in put for hole in holes_of(ask, facts)]):
        return False
    return keeps_facts(put, facts) and not met_by(ask, put)
