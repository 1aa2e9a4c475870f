"""What the tests hand in: odd things of every kind, and things drawn from a fixed seed."""

import random

ODD_THINGS = [
    None, True, False, 0, 1, -1, 10 ** 20, "", "a", "X", "name", "%", (), [], {}, ("a",), ("a", "b"), ["a", "b"],
    (("a", "b"),), [("a", "b"), ("b", "a")], {"a": "b"}, {("f", 0): (1, ())}, (None,), (True, False), ((), ()),
    ([],), ({},), (([], {}), ({}, [])), ("name",), ("name", "a", "b"), ("name", 1), ("hole", (), "x"),
    ("sign", "f", []), ("shut", "a", None), (("X", ("name", "A")),), (("X", "a"),), ((0, "X"),), (("a", "X", "Y"),),
]

FIVE = ["a", "b", "c", "d", "e"]
HOLES = ["X", "Y", "Z"]


def deep(thing, levels):
    """The thing within tuples, lists and dicts in turns."""
    for level in range(levels):
        thing = [(thing,), [thing], {"a": thing}][level % 3]
    return thing


def many_odd():
    """Odd things, things as large and as deep as the document lets them be."""
    return ODD_THINGS + [deep(None, 39), tuple(range(2999)), [("a", "b")] * 900, tuple([("a", "b")] * 900), "a" * 1000]


def turn_moving(names, images):
    """The turn that leads each name to the image at its place."""
    return tuple(sorted([(name, to) for name, to in zip(names, images) if name != to]))


def some_turn(chance, names=FIVE):
    """A turn of some of these names."""
    return turn_moving(names, chance.sample(names, len(names)))


def some_term(chance, levels, names=FIVE, holes=HOLES):
    """A term of at most so many levels; a plain one where there are no holes."""
    kind = chance.choice(["name", "hole", "shut", "shut", "sign", "sign"])
    if kind == "hole" and holes:
        return ("hole", some_turn(chance, names[:3]) if chance.random() < 0.7 else (), chance.choice(holes))
    if kind == "shut" and levels > 1:
        return ("shut", chance.choice(names), some_term(chance, levels - 1, names, holes))
    if kind == "sign" and levels > 1:
        parts = [some_term(chance, levels - 1, names, holes) for _ in range(chance.randrange(4))]
        return ("sign", chance.choice(["f", "g", "a"]), tuple(parts))
    return ("name", chance.choice(names))


def drawn(seed):
    """A source of chance that gives the same at each run."""
    return random.Random(seed)
