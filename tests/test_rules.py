"""Rules, and what it is for them to be closed."""

import unittest

from shutnames.errors import NoRule, NotClosed
from shutnames.rules import look_rule

from test_fillings import NO_FACTS, odd_but
from test_terms import NO_TERMS
from things import (A, B, C, THREE, X, Y, Z, all_holes, all_names, drawn, hole, inner, led, many_odd, name, shut, sign,
                    some_facts, some_term)

AB, BC = hole("X", ("a", "b")), hole("X", ("b", "c"))
F = sign("f")


def above(term, shuts=()):
    """All parts with the names of the shuts above them, by recursion."""
    lower = shuts + (term[1],) if term[0] == "shut" else shuts
    return [(term, shuts)] + [row for part in inner(term) for row in above(part, lower)]


def fault(rule):
    """Where the rule isn't closed, by the words of the document: (name, hole), or None where it is."""
    facts, left, right = rule
    rows = above(left) + above(right)
    loose = [part[1] for part, shuts in rows if part[0] == "name" and part[1] not in shuts]
    if loose:
        return (min(loose), None)
    names = all_names(left) | all_names(right) | {a for a, _ in facts}
    found = []
    for x in all_holes(left):
        for a in names - {b for b, y in facts if y == x}:
            ends = [(led(part[1], a), shuts) for part, shuts in rows if part[0] == "hole" and part[2] == x]
            at_each = all(to in shuts for to, shuts in ends)
            at_none = not any(to in shuts for to, shuts in ends) and len({to for to, _ in ends}) == 1
            if not at_each and not at_none:
                found.append((x, a))
    return min(found)[::-1] if found else None


CLOSED = [
    ((), F, F), ((), F, shut("a", A)), ((), shut("a", A), F), ((), shut("a", sign("v", A)), shut("b", sign("v", B))),
    ((), sign("f", X), X), ((), sign("f", X, Y), sign("g", Y, X, X)), ((), sign("f", X, X), F), ((), shut("a", Y), F),
    ((), shut("a", X), shut("a", X)), ((), shut("a", sign("f", X, A)), shut("a", sign("g", X))),
    ((("a", "X"),), shut("a", X), X), ((("a", "X"),), shut("a", sign("app", X, sign("v", A))), X),
    ((), sign("app", shut("a", X), Y), sign("let", Y, shut("a", X))), ((), shut("aa", sign("f", A)), shut("a", A)),
    ((), shut("aba", sign("f", A, B)), F), ((), shut("ab", AB), shut("ba", hole("X", ("a", "b")))),
    ((), shut("ab", X), shut("ba", X)), ((), shut("ab", AB), shut("ab", X)), ((), sign("f", AB), F), ((), sign("f", AB), AB),
    ((), sign("f", AB, AB), sign("g", AB)), ((("a", "X"), ("b", "X")), sign("f", AB, X), X),
    ((("a", "X"), ("b", "X")), sign("f", shut("a", X), X), AB), ((("b", "X"),), shut("a", X), shut("b", AB)),
    ((("a", "X"), ("q", "Y")), sign("f", shut("a", X), Y), sign("f", X, Y)), ((("a", "X"),), sign("f", X, Y), sign("f", Y)),
    ((), sign("f", shut("a", X), shut("a", sign("f", X, X))), shut("a", X)),
    ((), sign("f", hole("X", ("c", "d"))), shut("a", F)), ((), shut("abc", X), shut("cba", hole("X", ("a", "c")))),
    ((), shut("ab", sign("f", X, AB)), F),
]
UNCLOSED = [
    (((), sign("f", A), F), "a", None), (((), F, A), "a", None), (((), F, shut("a", B)), "b", None),
    (((), sign("f", C, shut("a", A), shut("a", B)), sign("f", A)), "a", None), (((), shut("b", B), sign("f", B)), "b", None),
    (((("a", "X"),), sign("f", X, B), X), "b", None), (((), sign("f", shut("a", X), A), X), "a", None),
    (((), sign("f", name("z"), shut("a", X)), X), "z", None), (((), sign("f", shut("a", X), X), F), "a", "X"),
    (((), shut("a", X), X), "a", "X"), (((), sign("f", X), shut("a", X)), "a", "X"), (((), shut("b", X), shut("a", X)), "a", "X"),
    (((("a", "X"),), shut("b", X), shut("a", X)), "b", "X"), (((), shut("a", X), AB), "a", "X"),
    (((("a", "X"),), shut("a", X), AB), "b", "X"), (((("b", "X"),), shut("a", X), AB), "a", "X"),
    (((), sign("f", X), AB), "a", "X"), (((("a", "X"),), sign("f", X), AB), "b", "X"),
    (((), shut("a", X), shut("b", AB)), "b", "X"), (((), shut("a", X), shut("a", AB)), "a", "X"),
    (((), shut("a", AB), AB), "b", "X"), (((), sign("f", shut("b", Y), shut("a", Z), Y, Z), F), "b", "Y"),
    (((), sign("f", shut("a", Y), shut("a", X), Y, X), F), "a", "X"), (((("a", "X"),), sign("f", shut("a", Y), shut("a", X), Y), X), "a", "Y"),
    (((), sign("f", AB, BC), F), "a", "X"), (((("a", "X"),), sign("f", AB, BC), F), "b", "X"),
    (((("a", "X"), ("b", "X")), sign("f", AB, BC), F), "c", "X"), (((("a", "X"),), sign("f", shut("c", X), X), F), "c", "X"),
    (((("b", "Y"),), sign("f", X, shut("b", X), Y), F), "b", "X"), (((), shut("ab", sign("f", X, hole("X", ("b", "c")))), F), "b", "X"),
]
NO_RULES = [
    [(), F, F], (F, F), ((), F), ((), F, F, ()), (), ((), F, F, F), (F, F, F), ((), A, A), ((), A, F), ((), X, X), ((), X, F), ((), AB, F),
    ((), ("level", 0), F), ((), ("shut", ("level", 0)), F), ((), F, ("shut", ("level", 0))), (None, F, F), ([], F, F), ((), F, None),
    ((), None, F), ((), F, X), ((), sign("f", Y), X), ((), sign("f", X), sign("f", X, Y)), ((("a", "X"),), F, F),
    ((("a", "Y"),), sign("f", X), X), ((("a", "X"), ("a", "Y")), sign("f", X), X), ((("a", "X"), ("a", "X")), sign("f", X), X),
    ((("b", "X"), ("a", "X")), sign("f", X), X), ((["a", "X"],), sign("f", X), X), ((), shut("a", A), shut("a", AB)),
    ((), ["sign", "f", ()], F), ((), F, ["sign", "f", ()]), ((), ("sign", "f", []), F), {(): F}, (("a", "X"), sign("f", X), X),
    ((), "f", "f"), (F, (), F), (F, F, ()), ("sign", "f", ()), ((), sign("f", None), F),
]


class Closed(unittest.TestCase):
    def test_by_hand(self):
        for rule in CLOSED:
            self.assertIsNone(fault(rule), rule)
            self.assertIsNone(look_rule(rule), rule)

    def test_deep(self):
        tower = shut(["n" + str(at) for at in range(11)], sign("f", X, name("n3")))
        self.assertIsNone(look_rule(((), tower, tower)))


class Unclosed(unittest.TestCase):
    def refused(self, rule):
        with self.assertRaises(NotClosed) as caught:
            look_rule(rule)
        return (caught.exception.name, caught.exception.hole)

    def test_by_hand(self):
        for rule, a, x in UNCLOSED:
            self.assertEqual(fault(rule), (a, x), rule)
            self.assertEqual(self.refused(rule), (a, x), rule)

    def test_names_in_facts_and_in_turns_alone(self):
        self.assertEqual(self.refused(((("c", "Y"),), sign("f", shut("c", X), X, Y), F)), ("c", "X"))
        self.assertEqual(self.refused(((), sign("f", hole("X", ("c", "d"))), X)), ("c", "X"))
        self.assertIsNone(look_rule(((("c", "X"), ("d", "X")), sign("f", hole("X", ("c", "d"))), X)))
        self.assertEqual(self.refused(((("c", "X"),), sign("f", hole("X", ("c", "d"))), X)), ("d", "X"))

    def test_two_ways_to_be_closed(self):
        # Above each standing of X stands a shut of where a is led, and the turns lead it to unlike names.
        self.assertIsNone(look_rule(((), shut("ab", sign("f", X, AB)), shut("ba", AB))))
        # Above none stands one, and all turns lead it to one name.
        self.assertIsNone(look_rule(((), sign("f", AB, shut("c", hole("Y", ("c", "d")))), sign("g", AB))))
        self.assertEqual(self.refused(((), sign("f", AB, shut("c", AB)), sign("g", AB))), ("c", "X"))

    def test_drawn(self):
        chance = drawn(61)
        seen = {"closed": 0, "name": 0, "hole": 0}
        while min(seen.values()) < 150:
            holes = chance.choice([["X"], ["X", "Y"]])
            inside = [some_term(chance, 3, THREE[:2], holes) for _ in range(2)]
            tops = [chance.choice([lambda one: shut("a", one), lambda one: shut("ab", one), lambda one: sign("f", one)])
                    for _ in range(2)]
            left, right = tops[0](inside[0]), tops[1](inside[1])
            if not all_holes(right) <= all_holes(left):
                continue
            rule = (tuple(fact for fact in some_facts(chance, THREE[:2], holes) if fact[1] in all_holes(left)), left, right)
            wanted = fault(rule)
            if wanted is None:
                seen["closed"] += 1
                self.assertIsNone(look_rule(rule))
            else:
                seen["name" if wanted[1] is None else "hole"] += 1
                self.assertEqual(self.refused(rule), wanted, rule)


class Refusals(unittest.TestCase):
    def test_no_rule(self):
        for thing in NO_RULES + many_odd() + NO_TERMS + odd_but():
            with self.assertRaises(NoRule, msg=thing):
                look_rule(thing)

    def test_things_in_a_rule(self):
        for thing in NO_FACTS + odd_but(()):
            with self.assertRaises(NoRule):
                look_rule((thing, sign("f", X, Y), X))
        for thing in NO_TERMS + odd_but():
            for rule in [((), thing, F), ((), F, thing), ((), sign("f", A, thing), F), ((), sign("f", A), shut("b", thing))]:
                with self.assertRaises(NoRule):
                    look_rule(rule)

    def test_no_rule_ahead_of_not_closed(self):
        for rule in [((), sign("f", A), X), ((("a", "Y"),), sign("f", A, X), A), ((), A, B)]:
            with self.assertRaises(NoRule):
                look_rule(rule)


if __name__ == "__main__":
    unittest.main()
