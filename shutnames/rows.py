"""A term as a row of its parts, each ahead of what is in it, and terms made anew from such a row.

Rows are gone along by loops, so that terms put together of told ones may be as deep as they like.
Level forms are gone along likewise.
"""


def within(part):
    """The parts that stand right in a part."""
    if part[0] == "sign":
        return part[2]
    if part[0] == "shut":
        return part[-1:]
    return ()


def with_parts(part, told):
    """The part with others right in it, as many as stood there."""
    if part[0] == "sign":
        return ("sign", part[1], tuple(told))
    return part[:-1] + tuple(told) if part[0] == "shut" else part


def rows_of(term):
    """All parts in order, each with the numbers in this list of the shuts above it, lowest last."""
    rows = []
    waiting = [(term, ())]
    while waiting:
        part, above = waiting.pop()
        lower = above + (len(rows),) if part[0] == "shut" else above
        rows.append((part, above))
        waiting.extend([(inner, lower) for inner in within(part)[::-1]])
    return rows


def parts_in(term):
    """All parts in order."""
    return [part for part, _ in rows_of(term)]


def places_in(term):
    """The places of all parts in order: so they rise."""
    places = []
    waiting = [((), term)]
    while waiting:
        place, part = waiting.pop()
        places.append(place)
        waiting.extend([(place + (at,), inner) for at, inner in enumerate(within(part))][::-1])
    return places


def rebuilt(parts, make):
    """What make tells of the first part: make(at, told), told being the list of what it told of the parts in it."""
    done = []
    for at in reversed(range(len(parts))):
        told = [done.pop() for _ in within(parts[at])]
        done.append(make(at, told))
    return done.pop()


def changed(term, make):
    """What make(part, told) tells of the whole term."""
    parts = parts_in(term)
    return rebuilt(parts, lambda at, told: make(parts[at], told))
