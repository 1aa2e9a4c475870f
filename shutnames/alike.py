"""What is the same whatever shut names are called."""

from shutnames.errors import HasHoles, NoName
from shutnames.names import is_name, names_beside
from shutnames.rows import changed, rebuilt, rows_of, with_parts
from shutnames.terms import check_term, holes_within


def check_plain(terms):
    """Refuse what is no term, and then what isn't plain, of a list."""
    for term in terms:
        check_term(term)
    for term in terms:
        if holes_within(term):
            raise HasHoles("the term has holes")


def name_or_level(rows, part, above):
    """What stands in the level form for a name below these shuts."""
    for level, at in enumerate(reversed(above)):
        shut, _ = rows[at]
        if shut[1] == part[1]:
            return ("level", level)
    return part


def level_heads(term):
    """The level form's parts in order, each without those in it: two level forms are one where these lists are.

    Python compares tuples within one another by recursion; these lists it compares row by row.
    """
    rows = rows_of(term)
    heads = []
    for part, above in rows:
        if part[0] == "shut":
            heads.append(("shut",))
        elif part[0] == "sign":
            heads.append(("sign", part[1], len(part[2])))
        else:
            heads.append(name_or_level(rows, part, above))
    return heads


def level_part(head, part, told):
    """The level form of a part, from its own head and the level forms in it."""
    if part[0] == "shut":
        return ("shut", told[0])
    return with_parts(part, told) if part[0] == "sign" else head


def leveled(term):
    """The level form of what is known to be a plain term."""
    heads = level_heads(term)
    parts = [part for part, _ in rows_of(term)]
    return rebuilt(parts, lambda at, told: level_part(heads[at], parts[at], told))


def free_within(term):
    """The rising list of the names free in what is known to be a plain term."""
    return sorted({head[1] for head in level_heads(term) if head[0] == "name"})


def same_levels(one, other):
    """Whether two terms known to be plain are alike."""
    return level_heads(one) == level_heads(other)


def shut_names(rows):
    """For each shut of a level form's rows, by its number, the first name of the row of names that isn't free in it."""
    bars = {at: [] for at, (part, _) in enumerate(rows) if part[0] == "shut"}
    for part, above in rows:
        if part[0] == "name":
            for at in above:
                bars[at].append(part[1])
        if part[0] == "level":
            shutter = len(above) - 1 - part[1]
            for at in above[shutter + 1:]:
                bars[at].append(above[shutter])
    names = {}
    for at, barred in bars.items():
        # A bar is a name, or the number of a shut above, which has got its name ahead of this one.
        names[at] = names_beside([names.get(bar, bar) for bar in barred], 1)[0]
    return names


def named_part(rows, names, at, told):
    """The part with this number with the names of shuts in the place of levels."""
    part, above = rows[at]
    if part[0] == "shut":
        return ("shut", names[at], told[0])
    if part[0] == "level":
        return ("name", names[above[-1 - part[1]]])
    return with_parts(part, told)


def named(form):
    """The told form of the terms that have this level form."""
    rows = rows_of(form)
    names = shut_names(rows)
    parts = [part for part, _ in rows]
    return rebuilt(parts, lambda at, told: named_part(rows, names, at, told))


def free_names(term):
    """The rising list of the names that are free somewhere in the plain term."""
    check_plain([term])
    return free_within(term)


def level_form(term):
    """The level form of the plain term."""
    check_plain([term])
    return leveled(term)


def are_alike(one, other):
    """Whether two plain terms are alike."""
    check_plain([one, other])
    return same_levels(one, other)


def told_form(term):
    """The one term alike to it that is told for all such."""
    check_plain([term])
    return named(leveled(term))


def check_names_once(things):
    """Refuse a list in which not each thing is a name that stands there once."""
    if not all([is_name(thing) for thing in things]):
        raise NoName("something to be replaced is no name")
    if len(set(things)) != len(things):
        raise NoName("a name stands twice")


def replaced_part(forms, part, told):
    """The part of a level form with these level forms in the place of names."""
    if part[0] == "name":
        return forms.get(part[1], part)
    return with_parts(part, told)


def replaced(term, pairs):
    """The told form of the plain term with all free standings of the pairs' names giving place to the pairs' terms."""
    check_plain([term] + [put for _, put in pairs])
    check_names_once([name for name, _ in pairs])
    # In a level form no shut catches a name, and what has no level of a shut outside of it may stand anywhere.
    forms = {name: leveled(put) for name, put in pairs}
    return named(changed(leveled(term), lambda part, told: replaced_part(forms, part, told)))
