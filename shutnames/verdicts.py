"""Whether rules come together: whether each plain term has one end, or which one has two."""

from shutnames.alike import same_levels
from shutnames.bounds import MOST_USES
from shutnames.facts import least_facts
from shutnames.fillings import filled_by
from shutnames.names import is_number, names_beside
from shutnames.overlaps import overlaps
from shutnames.rows import parts_in
from shutnames.terms import holes_within, is_term
from shutnames.uses import ended_beside, first_step, led_by, names_within
from shutnames.weighings import check_weighing, falls, is_worth, worth_more


def check_book(rules, weighing):
    """Refuse what is no weighing, or lacks a sign of a rule."""
    check_weighing(weighing, [side for rule in rules for side in rule[1:]])


def first_rising(rules, weighing):
    """The verdict of the first rule that doesn't fall; None where all fall."""
    for number, rule in enumerate(rules):
        fall, worths = falls(rule, weighing)
        if not fall:
            return ("rises", number, worths)
    return None


def ends_of(rules, overlap):
    """The ends of both terms of the overlap, and the facts told of both."""
    _, facts, _, first, second = overlap
    # New names stand in neither term, so that what is new at one end is no free name at the other one.
    one, one_facts, _ = ended_beside(first, rules, facts, MOST_USES, names_within(second))
    other, other_facts, _ = ended_beside(second, rules, facts, MOST_USES, names_within(first))
    return (one, other, tuple(sorted(set(one_facts + other_facts))))


def alike_under(one, other, facts):
    """Whether two terms are alike under the facts."""
    needed = least_facts([("alike", one, other)])
    known = {fact: True for fact in facts}
    return needed is not None and all([fact in known for fact in needed])


def first_unlike(rules):
    """The first overlap with unlike ends: the numbers of its rules, it, and what ends_of tells; None where none has."""
    for i in range(len(rules)):
        for j in range(len(rules)):
            for overlap in overlaps(rules, i, j):
                ends = ends_of(rules, overlap)
                if not alike_under(ends[0], ends[1], ends[2]):
                    return (i, j, overlap, ends)
    return None


def signs_for(rules, overlap, facts):
    """A dict that fills each hole of the overlap with a sign of its own over all names that the facts don't bar."""
    _, _, whole, first, second = overlap
    known = {fact: True for fact in facts}
    names = sorted({**names_within(whole), **names_within(first), **names_within(second)})
    taken = [part[1] for rule in rules for side in rule[1:] for part in parts_in(side) if part[0] == "sign"]
    holes = holes_within(whole)
    put = {}
    for hole, sign in zip(holes, names_beside(taken, len(holes))):
        put[hole] = ("sign", sign, tuple([("name", name) for name in names if (name, hole) not in known]))
    return put


def way_from(term, rules, place, number):
    """The uses from a plain term to an end, the first one that of a rule at a place."""
    led = led_by(term, rules, place, number)
    return [(place, number)] + ended_beside(led, rules, (), MOST_USES, {})[2]


def verdict(rules, weighing):
    """Whether all rules fall and the book comes together, or what shows that it is otherwise."""
    check_book(rules, weighing)
    rising = first_rising(rules, weighing)
    if rising is not None:
        return rising
    unlike = first_unlike(rules)
    if unlike is None:
        return ("good",)
    i, j, overlap, ends = unlike
    # No rule has these signs, and the names over them are just those that a fact would bar from the hole:
    # so the same uses lead on as with the holes, and unlike ends stay unlike.
    term = filled_by(signs_for(rules, overlap, ends[2]), overlap[2])
    return ("apart", term, way_from(term, rules, (), i), way_from(term, rules, overlap[0], j))


def are_worths(rule, weighing, thing):
    """Whether a thing is a dict of worths of just the left side's holes by which it doesn't weigh more."""
    holes = holes_within(rule[1])
    if not isinstance(thing, dict) or len(thing) != len(holes):
        return False
    if not all([hole in thing and is_worth(thing[hole]) for hole in holes]):
        return False
    more = worth_more(rule, weighing)
    return more[None] + sum([more[hole] * thing[hole] for hole in holes]) <= 0


def end_gone_to(term, rules, uses):
    """The term to which a list of uses leads from a plain term; None where it is none, or leads to no end."""
    if not isinstance(uses, list):
        return None
    for use in uses:
        if not isinstance(use, tuple) or len(use) != 2:
            return None
        term = led_by(term, rules, use[0], use[1])
        if term is None:
            return None
    return term if first_step(term, rules, (), {}) is None else None


def are_apart(rules, term, uses, other_uses):
    """Whether a thing is a plain term that two lists of uses lead to unlike ends."""
    if not is_term(term) or holes_within(term):
        return False
    one = end_gone_to(term, rules, uses)
    other = end_gone_to(term, rules, other_uses)
    return one is not None and other is not None and not same_levels(one, other)


def shows(rules, weighing, told):
    """Whether a thing is a verdict that shows that a rule rises, or that the book doesn't come together."""
    check_book(rules, weighing)
    rising = first_rising(rules, weighing)
    if not isinstance(told, tuple):
        return False
    if rising is None:
        return len(told) == 4 and told[0] == "apart" and are_apart(rules, told[1], told[2], told[3])
    if len(told) != 3 or told[0] != "rises" or not is_number(told[1]) or told[1] != rising[1]:
        return False
    return are_worths(rules[rising[1]], weighing, told[2])
