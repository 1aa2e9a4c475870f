"""Overlaps: terms on which two rules can be used, the one at or within what the other one's left side says."""

from shutnames.fillings import filled_by
from shutnames.keeping import check_at
from shutnames.making import answered
from shutnames.renewing import made_new
from shutnames.rows import parts_in, places_in
from shutnames.rules import names_of_rule
from shutnames.terms import holes_within, put_down
from shutnames.uses import head_of


def made_beside(rule, other):
    """The other rule with new names and holes beside those of the rule, and the facts under which the two overlap."""
    holes = holes_within(rule[1])
    new_rule, new_names = made_new(other, {name: True for name in names_of_rule(rule)}, holes)
    apart = [(name, hole) for name in new_names for hole in holes]
    return (new_rule, tuple(sorted(list(rule[0] + new_rule[0]) + apart)))


def overlap_at(rule, new_rule, facts, place, part):
    """The overlap of a rule and a new one at the place of the first one's left side; None where there is none."""
    _, left, right = rule
    answer = answered([("alike", part, new_rule[1])], facts)
    if answer[0] == "never":
        return None
    put = dict(answer[2])
    whole = filled_by(put, left)
    second = put_down(whole, place, filled_by(put, new_rule[2]))
    return (place, answer[1], whole, filled_by(put, right), second)


def overlaps(rules, i, j):
    """The list of the overlaps of two rules of a list, by places of the first one's left side, rising."""
    check_at(rules, i)
    check_at(rules, j)
    rule = rules[i]
    new_rule, facts = made_beside(rule, rules[j])
    rows = list(zip(places_in(rule[1]), parts_in(rule[1])))
    # At a name or a hole no head is like that of a left side.
    like = [row for row in rows if head_of(row[1]) == head_of(new_rule[1]) and (row[0] != () or i != j)]
    found = [overlap_at(rule, new_rule, facts, place, part) for place, part in like]
    return [overlap for overlap in found if overlap is not None]
