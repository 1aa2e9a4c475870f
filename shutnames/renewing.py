"""Rules with new names and holes in the place of their own."""

from shutnames.names import holes_beside, names_beside
from shutnames.rows import changed, with_parts
from shutnames.rules import names_of_rule
from shutnames.terms import holes_within


def renewed_part(names, holes, part, told):
    """The part with names and holes exchanged by two dicts; a hole under no turn still stands under none."""
    if part[0] == "name":
        return ("name", names[part[1]])
    if part[0] == "hole":
        return ("hole", tuple(sorted([(names[name], names[to]) for name, to in part[1]])), holes[part[2]])
    if part[0] == "shut":
        return ("shut", names[part[1]], told[0])
    return with_parts(part, told)


def renewed(rule, names, holes):
    """The rule with all its names and holes exchanged by two dicts."""
    facts, left, right = rule
    sides = [changed(side, lambda part, told: renewed_part(names, holes, part, told)) for side in (left, right)]
    return (tuple(sorted([(names[name], holes[hole]) for name, hole in facts])), sides[0], sides[1])


def made_new(rule, names, holes):
    """The rule with names and holes that are neither its own nor taken, and the list of its new names.

    Names taken are a dict's keys, and holes a list. The new names are the first ones of the row, in the order of those
    in whose place they stand.
    """
    old_names = names_of_rule(rule)
    old_holes = holes_within(rule[1])
    new_names = names_beside({**names, **{name: True for name in old_names}}, len(old_names))
    new_holes = holes_beside(holes + old_holes, len(old_holes))
    return (renewed(rule, dict(zip(old_names, new_names)), dict(zip(old_holes, new_holes))), new_names)
