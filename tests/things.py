"""What the tests hand in, drawn from fixed seeds, and plain ways to tell what the program should."""

import itertools
import random

ODD_THINGS = [
    None, True, False, 0, 1, -1, 10 ** 20, "", "a", "X", "name", "%", (), [], {}, ("a",), ("a", "b"), ["a", "b"],
    (("a", "b"),), [("a", "b"), ("b", "a")], {"a": "b"}, {("f", 0): (1, ())}, (None,), (True, False), ((), ()),
    ([],), ({},), (([], {}), ({}, [])), ("name",), ("name", "a", "b"), ("name", 1), ("hole", (), "x"),
    ("sign", "f", []), ("shut", "a", None), (("X", ("name", "A")),), (("X", "a"),), ((0, "X"),), (("a", "X", "Y"),),
]

FIVE = ["a", "b", "c", "d", "e"]
THREE = ["a", "b", "c"]
HOLES = ["X", "Y", "Z"]
ROW = [letter + lap for lap in ["", "1", "2", "3", "4", "5", "6", "7", "8", "9"] for letter in "abcdefghijklmnopqrstuvwxyz"]


def deep(thing, levels):
    """The thing within tuples, lists and dicts in turns."""
    for level in range(levels):
        thing = [(thing,), [thing], {"a": thing}][level % 3]
    return thing


def many_odd():
    """Odd things, things as large and as deep as the document lets them be."""
    return ODD_THINGS + [deep(None, 39), tuple(range(2999)), [("a", "b")] * 900, tuple([("a", "b")] * 900), "a" * 1000]


def drawn(seed):
    """A source of chance that gives the same at each run."""
    return random.Random(seed)


# Terms, written shortly.

def name(a):
    return ("name", a)


def hole(x, *swaps):
    """A hole under the turn of some exchanges of names that stand in one exchange only."""
    return ("hole", tuple(sorted([(one, to) for swap in swaps for one, to in (swap, swap[::-1])])), x)


def shut(names, term):
    """The term with the names shut in, the first one outermost; of a text each sign is a name."""
    for a in reversed(names):
        term = ("shut", a, term)
    return term


def sign(f, *parts):
    return ("sign", f, parts)


A, B, C, D, X, Y, Z = name("a"), name("b"), name("c"), name("d"), hole("X"), hole("Y"), hole("Z")


# Things drawn.

def turn_moving(names, images):
    """The turn that leads each name to the image at its place."""
    return tuple(sorted([(one, to) for one, to in zip(names, images) if one != to]))


def some_turn(chance, names=FIVE):
    """A turn of some of these names."""
    return turn_moving(names, chance.sample(names, len(names)))


def some_term(chance, levels, names=FIVE, holes=HOLES):
    """A term of at most so many levels; a plain one where there are no holes."""
    kind = chance.choice(["name", "hole", "shut", "shut", "sign", "sign"])
    if kind == "hole" and holes:
        return ("hole", some_turn(chance, names[:3]) if chance.random() < 0.7 else (), chance.choice(holes))
    if kind == "shut" and levels > 1:
        return ("shut", chance.choice(names), some_term(chance, levels - 1, names, holes))
    if kind == "sign" and levels > 1:
        parts = [some_term(chance, levels - 1, names, holes) for _ in range(chance.randrange(4))]
        return ("sign", chance.choice(["f", "g", "a"]), tuple(parts))
    return ("name", chance.choice(names))


def some_filling(chance, levels, names=FIVE, holes=HOLES, inner=HOLES):
    """A filling of some of the holes."""
    return tuple([(x, some_term(chance, levels, names, inner)) for x in holes if chance.random() < 0.6])


def some_facts(chance, names=FIVE, holes=HOLES):
    """Some facts of the holes."""
    return tuple([(a, x) for a in sorted(names) for x in holes if chance.random() < 0.3])


def plain_terms(names):
    """Small plain terms, among them such in which each of the names is free, and such in which none is."""
    small = [name(a) for a in names] + [sign("p"), sign("q"), sign("f", *[name(a) for a in names])]
    return small + [shut("a", name(a)) for a in names] + [sign("f", name(names[0]), shut("b", name(names[-1])))]


def plain_fillings(names, holes):
    """All fillings of the holes with small plain terms."""
    for terms in itertools.product(plain_terms(names), repeat=len(holes)):
        yield tuple(zip(sorted(holes), terms))


# What is told of terms, by recursion and by the words of the document alone.

def led(turn, a):
    """Where the turn leads the name, looked up pair by pair."""
    for one, to in turn:
        if one == a:
            return to
    return a


def inner(term):
    """The terms right in a term."""
    return {"name": (), "hole": (), "shut": term[2:], "sign": term[-1]}[term[0]]


def all_parts(term):
    """All parts, with their places."""
    return [((), term)] + [((at,) + place, part) for at, one in enumerate(inner(term)) for place, part in all_parts(one)]


def free(term):
    """The set of the names free in a plain term."""
    if term[0] == "name":
        return {term[1]}
    names = set().union(*[free(part) for part in inner(term)])
    return names - {term[1]} if term[0] == "shut" else names


def all_names(term):
    """The set of all names in a term."""
    own = {"name": [term[1]], "shut": [term[1]], "hole": [a for pair in term[1] for a in pair], "sign": []}[term[0]]
    return set(own).union(*[all_names(part) for part in inner(term)])


def all_holes(term):
    """The set of the holes in a term."""
    return {part[2] for _, part in all_parts(term) if part[0] == "hole"}


def levels(term, above=()):
    """The level form of a plain term."""
    if term[0] == "name":
        return ("level", above.index(term[1])) if term[1] in above else term
    if term[0] == "shut":
        return ("shut", levels(term[2], (term[1],) + above))
    return ("sign", term[1], tuple(levels(part, above) for part in term[2]))


def lead(turn, term):
    """The term led by a turn."""
    if term[0] == "hole":
        moved = sorted({a for pair in term[1] + turn for a in pair})
        return ("hole", turn_moving(moved, [led(turn, led(term[1], a)) for a in moved]), term[2])
    if term[0] == "sign":
        return ("sign", term[1], tuple(lead(turn, part) for part in term[2]))
    return (term[0], led(turn, term[1])) + tuple(lead(turn, part) for part in term[2:])


def fill(term, filling):
    """The term filled."""
    if term[0] == "hole":
        return lead(term[1], dict(filling)[term[2]]) if term[2] in dict(filling) else term
    if term[0] == "sign":
        return ("sign", term[1], tuple(fill(part, filling) for part in term[2]))
    return term[:2] + tuple(fill(part, filling) for part in term[2:])


def kept(filling, facts):
    """Whether a plain filling keeps the facts."""
    put = dict(filling)
    return all(x in put and a not in free(put[x]) for a, x in facts)


def met(ask, filling):
    """Whether a plain filling of all holes of the ask meets it."""
    if ask[0] == "alike":
        return levels(fill(ask[1], filling)) == levels(fill(ask[2], filling))
    return ask[1] not in free(fill(ask[2], filling))
