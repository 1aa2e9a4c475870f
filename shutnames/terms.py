"""Terms: names, holes under turns, shuts and signs."""

from shutnames.errors import NoPlace, NoTerm
from shutnames.names import is_hole, is_name, is_number
from shutnames.rows import changed, parts_in, places_in, with_parts, within
from shutnames.turns import check_turn, is_turn, joined


def is_part(thing):
    """Whether a thing is written as a term, whatever stands where terms stand in it."""
    if not isinstance(thing, tuple) or len(thing) not in (2, 3):
        return False
    if len(thing) == 2:
        return thing[0] == "name" and is_name(thing[1])
    if thing[0] == "hole":
        return is_turn(thing[1]) and is_hole(thing[2])
    if thing[0] == "sign":
        return is_name(thing[1]) and isinstance(thing[2], tuple)
    return thing[0] == "shut" and is_name(thing[1])


def is_term(thing):
    """Whether a thing is a term."""
    waiting = [thing]
    while waiting:
        part = waiting.pop()
        if not is_part(part):
            return False
        waiting.extend(within(part))
    return True


def check_term(thing):
    """Refuse what is no term."""
    if not is_term(thing):
        raise NoTerm("this is no term")


def parts_of(term):
    """How many parts the term has."""
    check_term(term)
    return len(parts_in(term))


def levels_of(term):
    """How many levels the term has."""
    check_term(term)
    return 1 + max([len(place) for place in places_in(term)])


def names_at(part):
    """The names that stand in the part itself, not in the parts in it."""
    if part[0] == "hole":
        return [name for name, _ in part[1]]
    return [] if part[0] == "sign" else [part[1]]


def names_in(term):
    """The rising list of all names in the term, shut ones and those in turns, too."""
    check_term(term)
    return sorted({name for part in parts_in(term) for name in names_at(part)})


def holes_within(term):
    """The rising list of the holes in what is known to be a term."""
    return sorted({part[2] for part in parts_in(term) if part[0] == "hole"})


def holes_in(term):
    """The rising list of the term's holes."""
    check_term(term)
    return holes_within(term)


def places_of(term):
    """The rising list of the term's places."""
    check_term(term)
    return places_in(term)


def parts_down(term, place):
    """The parts on the way from the whole term to the place, both among them."""
    way = [term]
    for at in place:
        parts = within(way[-1])
        if not is_number(at) or not 0 <= at < len(parts):
            raise NoPlace(place)
        way.append(parts[at])
    return way


def part_at(term, place):
    """The part at the place."""
    check_term(term)
    return parts_down(term, place)[-1]


def put_down(term, place, part):
    """The term with another part at the place, both known to be terms."""
    way = parts_down(term, place)
    whole = part
    for at, above in reversed(list(zip(place, way))):
        parts = within(above)
        whole = with_parts(above, parts[:at] + (whole,) + parts[at + 1:])
    return whole


def put_at(term, place, part):
    """The term with another part at the place."""
    check_term(term)
    check_term(part)
    return put_down(term, place, part)


def turned_part(moves, part, told):
    """The part with its own names led by a dict of moves, and other parts in it."""
    if part[0] == "name":
        return ("name", moves.get(part[1], part[1]))
    if part[0] == "hole":
        return ("hole", joined(dict(part[1]), moves), part[2])
    if part[0] == "shut":
        return ("shut", moves.get(part[1], part[1]), told[0])
    return with_parts(part, told)


def turned(turn, term):
    """The term led by the turn, both known to be such."""
    if not turn:
        return term
    moves = dict(turn)
    return changed(term, lambda part, told: turned_part(moves, part, told))


def turned_term(turn, term):
    """The term with all its names led by the turn."""
    check_turn(turn)
    check_term(term)
    return turned(turn, term)
