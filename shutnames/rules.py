"""Rules: two sides, the facts that the first one's holes must keep, and what it is for a rule to be closed."""

from shutnames.errors import NoRule, NotClosed
from shutnames.fillings import is_facts
from shutnames.rows import parts_in, rows_of
from shutnames.terms import holes_within, is_term, names_at


def is_rule(thing):
    """Whether a thing is a rule, closed or not."""
    if not isinstance(thing, tuple) or len(thing) != 3:
        return False
    facts, left, right = thing
    if not is_facts(facts) or not is_term(left) or not is_term(right) or left[0] not in ("sign", "shut"):
        return False
    holes = holes_within(left)
    return all([hole in holes for hole in [hole for _, hole in facts] + holes_within(right)])


def check_rule(thing):
    """Refuse what is no rule."""
    if not is_rule(thing):
        raise NoRule("this is no rule")


def names_of_rule(rule):
    """The rising list of all names that stand anywhere in the rule."""
    facts, left, right = rule
    inside = [name for part in parts_in(left) + parts_in(right) for name in names_at(part)]
    return sorted(set(inside + [name for name, _ in facts]))


def standings(rule):
    """All parts of both sides, each with the names of the shuts above it."""
    found = []
    for side in rule[1:]:
        rows = rows_of(side)
        found.extend([(part, [rows[at][0][1] for at in above]) for part, above in rows])
    return found


def free_in_rule(rule):
    """The rising list of the names that are free somewhere in a side."""
    return sorted({part[1] for part, shuts in standings(rule) if part[0] == "name" and part[1] not in shuts})


def turns_of_holes(standing):
    """For each hole the turns under which it stands, as dicts, each with the names of the shuts above it there."""
    found = {}
    for part, shuts in standing:
        if part[0] == "hole":
            found.setdefault(part[2], []).append((dict(part[1]), shuts))
    return found


def is_closed_at(name, turns):
    """Whether the name is treated alike under all turns of a hole: shut at each one, or at none and led to one."""
    led = [moves.get(name, name) for moves, _ in turns]
    shut = [to in shuts for to, (_, shuts) in zip(led, turns)]
    return all(shut) or (not any(shut) and len(set(led)) == 1)


def look_rule(rule):
    """Refuse what is no rule, and a rule that isn't closed."""
    check_rule(rule)
    free = free_in_rule(rule)
    if free:
        raise NotClosed(free[0], None)
    turns = turns_of_holes(standings(rule))
    known = {fact: True for fact in rule[0]}
    names = names_of_rule(rule)
    for hole in sorted(turns):
        for name in names:
            if (name, hole) not in known and not is_closed_at(name, turns[hole]):
                raise NotClosed(name, hole)


def is_closed_rule(thing):
    """Whether a thing is a closed rule."""
    try:
        look_rule(thing)
    except (NoRule, NotClosed):
        return False
    return True
