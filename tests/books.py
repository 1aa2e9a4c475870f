"""Books of closed rules that the tests hand in, with a weighing, and ways to go by them as chance will."""

from shutnames.errors import NoRule, NotClosed
from shutnames.fillings import filled
from shutnames.rules import look_rule
from shutnames.terms import places_of, put_at
from shutnames.uses import steps_of
from shutnames.weighings import falls

from things import A, THREE, X, Y, Z, all_holes, all_names, all_parts, hole, name, shut, sign, some_turn

AX = (("a", "X"),)
W = {("f", 2): (1, (2, 1)), ("g", 1): (2, (2,)), ("h", 1): (1, (1,)), ("k", 2): (1, (1, 1)), ("p", 0): (1, ()), ("q", 0): (2, ())}
PARTS = {"f": 2, "g": 1, "h": 1, "k": 2, "p": 0}
F, G, H, K = [lambda *parts, f=f: sign(f, *parts) for f in "fghk"]
P, Q = sign("p"), sign("q")

# By W all of these fall.
VAIN = (AX, shut("a", X), X)
ETA = (AX, shut("a", F(X, A)), X)
PULL = ((), G(shut("a", X)), shut("a", G(X)))
ASSOC = ((), F(F(X, Y), Z), F(X, F(Y, Z)))
TWICE = ((), G(X), K(X, X))
LEFT = ((), K(X, Y), X)
RIGHT = ((), K(X, Y), Y)
EQUAL = ((), K(X, X), X)
SWAP = ((), shut("ab", G(X)), shut("ba", H(X)))
TURN = ((("a", "X"), ("b", "X")), G(hole("X", ("a", "b"))), X)
G_TO_H = ((), G(X), H(X))
SHUT_G = ((), shut("a", G(X)), P)
SHUT_H = ((), shut("a", H(X)), P)
SHUT_H_VAIN = (AX, shut("a", H(X)), P)
GOOD = [
    [], [VAIN], [ETA], [PULL], [ASSOC], [TWICE], [EQUAL], [SWAP], [TURN], [VAIN, ETA], [PULL, VAIN], [VAIN, PULL],
    [LEFT], [SHUT_G, SHUT_H, G_TO_H], [VAIN, VAIN], [TURN, VAIN], [((), H(X), X), VAIN], [((), F(X, P), X), ((), F(P, X), X), ASSOC],
    [LEFT, ((), G(K(X, Y)), H(X)), G_TO_H],
]
APART = [
    [LEFT, RIGHT], [SHUT_G, G_TO_H], [SHUT_G, SHUT_H_VAIN, G_TO_H], [ASSOC, ((), F(X, P), Q)], [SWAP, G_TO_H], [TWICE, G_TO_H],
    [((), G(G(X)), H(X))], [((), F(F(X, Y), P), X)], [PULL, ((), shut("a", X), P)], [VAIN, ((), shut("a", X), P)],
    [((), shut("a", G(X)), shut("a", X)), G_TO_H], [((), K(shut("a", X), Y), P), ((), K(X, shut("a", Y)), Q)],
    [ASSOC, ETA], [((), shut("ab", X), P), ((("b", "X"),), shut("ab", X), Q)], [((), G(shut("a", X)), shut("a", X)), VAIN, G_TO_H],
]
# By W none of these falls.
RISING = [((), P, Q), ((), P, P), ((), K(X, Y), F(X, Y)), (AX, shut("a", X), shut("a", X)), ((), shut("a", H(X)), H(shut("a", X))),
          ((), H(X), G(X)), ((), F(X, Y), F(Y, X)), ((), K(X, X), G(X)), ((), K(Q, X), K(X, X)), ((), shut("a", X), K(P, P))]


def some_part(chance, levels, names, holes):
    """A term of at most so many levels, with the signs of W."""
    kind = chance.random()
    if levels <= 1 or kind < 0.15:
        if holes and chance.random() < 0.7:
            return ("hole", some_turn(chance, names) if chance.random() < 0.35 else (), chance.choice(holes))
        return name(chance.choice(names)) if chance.random() < 0.7 else P
    if kind < 0.5:
        return ("shut", chance.choice(names), some_part(chance, levels - 1, names, holes))
    f = chance.choice("fghk") if chance.random() < 0.9 else "p"
    return sign(f, *[some_part(chance, levels - 1, names, holes) for _ in range(PARTS[f])])


def is_closed(rule):
    try:
        look_rule(rule)
    except (NoRule, NotClosed):
        return False
    return True


def some_rule(chance):
    """A closed rule that falls by W."""
    while True:
        left, right = [some_part(chance, chance.choice([2, 3, 3]), ["a", "b"], ["X", "Y"]) for _ in range(2)]
        facts = tuple((a, x) for a in "ab" for x in sorted(all_holes(left)) if chance.random() < 0.35)
        rule = (facts, left, right)
        if is_closed(rule) and falls(rule, W)[0]:
            return rule


def some_book(chance):
    return [some_rule(chance) for _ in range(chance.choice([1, 2, 2, 3]))]


def some_subject(chance, rules, levels=2):
    """A plain term, in which often some rules can be used."""
    term = some_part(chance, 3, THREE, [])
    for _ in range(chance.randrange(1, 3) if rules else 0):
        left = chance.choice(rules)[1]
        part = filled(left, tuple((x, some_part(chance, levels, THREE, [])) for x in sorted(all_holes(left))))
        if chance.random() < 0.5:
            term = put_at(term, chance.choice(places_of(term)), part)
        else:
            term = shut(chance.choice(["a", "b", ""]), K(part, term))
    return term


def some_end(chance, term, rules):
    """An end of a plain term, by uses as chance will, and these uses."""
    uses = []
    steps = steps_of(term, rules)
    while steps:
        place, number, term, _ = chance.choice(steps)
        uses.append((place, number))
        steps = steps_of(term, rules)
    return term, uses


def gone_through(term, rules, uses):
    """The term to which the uses lead, by steps_of."""
    for use in uses:
        (term,) = [there for place, number, there, _ in steps_of(term, rules) if (place, number) == use]
    return term


def signs_over(term, names, facts, begin="own"):
    """A filling of all holes of the term with signs of their own, over the names that the facts don't bar."""
    return tuple((x, sign(begin + str(at), *[name(a) for a in sorted(names) if (a, x) not in facts]))
                 for at, x in enumerate(sorted(all_holes(term))))


def called_otherwise(rule, names=None, holes=None, signs=None):
    """The rule with names, holes and signs exchanged by dicts; what isn't in them stays."""
    def change(part):
        kind = part[0]
        if kind == "name":
            return ("name", led(names, part[1]))
        if kind == "hole":
            return ("hole", tuple(sorted((led(names, a), led(names, b)) for a, b in part[1])), led(holes, part[2]))
        if kind == "shut":
            return ("shut", led(names, part[1]), change(part[2]))
        return ("sign", led(signs, part[1]), tuple(change(one) for one in part[2]))

    def led(table, word):
        return (table or {}).get(word, word)

    facts, left, right = rule
    return (tuple(sorted((led(names, a), led(holes, x)) for a, x in facts)), change(left), change(right))


def names_of(rule):
    return all_names(rule[1]) | all_names(rule[2]) | {a for a, _ in rule[0]}


def plain_parts(rule):
    """The places of the left side at which a sign or a shut stands."""
    return [place for place, part in all_parts(rule[1]) if part[0] in ("sign", "shut")]

