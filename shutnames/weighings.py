"""Weighings of terms, and whether rules make them lighter."""

from shutnames.alike import check_plain
from shutnames.errors import NoWeighing
from shutnames.names import is_name, is_number
from shutnames.rows import changed, parts_in
from shutnames.terms import holes_within


def is_worth(thing):
    """Whether a thing is a whole number from 1 on."""
    return is_number(thing) and thing >= 1


def is_pair(thing):
    """Whether a thing is a tuple of two things."""
    return isinstance(thing, tuple) and len(thing) == 2


def is_weight(sign, worth):
    """Whether the one is a sign with a count of parts, and the other one what such a sign weighs."""
    if not is_pair(sign) or not is_name(sign[0]) or not is_number(sign[1]):
        return False
    if not is_pair(worth) or not is_worth(worth[0]) or not isinstance(worth[1], tuple) or len(worth[1]) != sign[1]:
        return False
    return all([is_worth(times) for times in worth[1]])


def is_weighing(thing):
    """Whether a thing is a weighing."""
    return isinstance(thing, dict) and all([is_weight(sign, worth) for sign, worth in thing.items()])


def check_weighing(weighing, terms):
    """Refuse what is no weighing, or lacks a sign of the terms with so many parts."""
    if not is_weighing(weighing):
        raise NoWeighing("this is no weighing")
    for term in terms:
        for part in parts_in(term):
            if part[0] == "sign" and (part[1], len(part[2])) not in weighing:
                raise NoWeighing("a sign isn't in the weighing")


def added(pairs, own):
    """What pairs of a part's worth and of how many times it weighs come to, beside a number of their own."""
    whole = {None: own}
    for worth, times in pairs:
        for hole, many in worth.items():
            whole[hole] = whole.get(hole, 0) + many * times
    return whole


def part_worth(weighing, part, told):
    """The worth of a part from those of the parts in it."""
    if part[0] == "name":
        return {None: 1}
    if part[0] == "hole":
        return {None: 0, part[2]: 1}
    if part[0] == "shut":
        return added([(told[0], 1)], 1)
    own, times = weighing[(part[1], len(part[2]))]
    return added(list(zip(told, times)), own)


def worth_of(term, weighing):
    """How often each hole weighs in the term: a dict by holes, and by None for what weighs there without them."""
    return changed(term, lambda part, told: part_worth(weighing, part, told))


def weight_of(term, weighing):
    """The weight of the plain term."""
    check_plain([term])
    check_weighing(weighing, [term])
    return worth_of(term, weighing)[None]


def worth_more(rule, weighing):
    """How much more the left side weighs than the right one: a dict as worth_of tells it."""
    _, left, right = rule
    return added([(worth_of(left, weighing), 1), (worth_of(right, weighing), -1)], 0)


def falls(rule, weighing):
    """Whether the left side weighs more than the right one whatever its holes weigh, or else by what it doesn't."""
    _, left, right = rule
    check_weighing(weighing, [left, right])
    more = worth_more(rule, weighing)
    least = sum(list(more.values()))
    worths = {hole: 1 for hole in holes_within(left)}
    if least <= 0:
        return (False, worths)
    for hole in holes_within(left):
        if more[hole] < 0:
            # Each weight more of this hole takes as much off, till nothing is left of the least.
            worths[hole] = 1 + (least - 1 - more[hole]) // -more[hole]
            return (False, worths)
    return (True, None)
