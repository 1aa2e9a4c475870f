"""Fillings, what they do one behind the other, and the facts they keep."""

import unittest

from shutnames.errors import NoFacts, NoFilling, NoTerm
from shutnames.fillings import filled, keeps, then_filling

from things import (A, B, C, FIVE, HOLES, X, Y, Z, all_holes, drawn, fill, hole, kept, many_odd, shut, sign, some_facts,
                    some_filling, some_term)

FILLINGS = [(), (("X", A),), (("X", X),), (("X", A), ("Y", sign("f", X))), (("A1", A), ("X", B), ("X1", C))]
NO_FILLINGS = [
    [], [("X", A)], (["X", A],), (("X",),), (("X", A, A),), (("x", A),), (("", A),), (("1X", A),), (("ABCDEFGHI", A),),
    ((None, A),), ((["X"], A),), (({}, A),), (("X", None),), (("X", "a"),), (("X", ["name", "a"]),), (("X", ("name", "A")),),
    (("X", ("level", 0)),), (("X", ("shut", ("level", 0))),), (("X", A), ("X", A)), (("X", A), ("X", B)), (("Y", A), ("X", A)),
    (("X", A), ()), (("X", A), None), ("X", A), {"X": A}, None, True, "X", A, ((A, "X"),), (("X", (A,)),),
]
NO_FACTS = [
    [], [("a", "X")], (["a", "X"],), (("a",),), (("a", "X", "Y"),), (("A", "X"),), (("a", "x"),), (("X", "a"),), (("", "X"),),
    (("a", ""),), ((None, "X"),), (("a", None),), ((["a"], "X"),), (("a", {}),), (("a", "X"), ("a", "X")),
    (("b", "X"), ("a", "X")), (("a", "Y"), ("a", "X")), (("b", "X"), ("a", "Y")), ("a", "X"), {"a": "X"}, None, True, "a",
    (("a", "X"), ()), (("a", "X"), None), (("abcdefghi", "X"),), (("a", "ABCDEFGHI"),),
]


def odd_but(*right):
    """The odd things that are none of these."""
    return [thing for thing in many_odd() if thing not in right]


class Filled(unittest.TestCase):
    def test_by_hand(self):
        self.assertEqual(filled(X, (("X", A),)), A)
        self.assertEqual(filled(X, ()), X)
        self.assertEqual(filled(X, (("Y", A),)), X)
        self.assertEqual(filled(sign("f", X, Y, X), (("X", A),)), sign("f", A, Y, A))
        self.assertEqual(filled(sign("f", X, Y), (("X", Y), ("Y", X))), sign("f", Y, X))

    def test_names_get_shut(self):
        self.assertEqual(filled(shut("a", X), (("X", A),)), shut("a", A))
        self.assertEqual(filled(shut("a", sign("f", X, A)), (("X", shut("a", A)),)),
                         shut("a", sign("f", shut("a", A), A)))

    def test_turns(self):
        self.assertEqual(filled(hole("X", ("a", "b")), (("X", sign("a", A, shut("b", B), C)),)),
                         sign("a", B, shut("a", A), C))
        self.assertEqual(filled(hole("X", ("a", "b")), (("X", hole("Y", ("b", "c"))),)),
                         ("hole", (("a", "b"), ("b", "c"), ("c", "a")), "Y"))
        self.assertEqual(filled(hole("X", ("a", "b")), (("X", X),)), hole("X", ("a", "b")))
        self.assertEqual(filled(shut("b", hole("X", ("a", "b"))), (("X", A),)), shut("b", B))

    def test_drawn(self):
        chance = drawn(31)
        for _ in range(400):
            term, filling = some_term(chance, 5), some_filling(chance, 3)
            self.assertEqual(filled(term, filling), fill(term, filling))


class ThenFilling(unittest.TestCase):
    def test_by_hand(self):
        self.assertEqual(then_filling((), ()), ())
        self.assertEqual(then_filling((("X", Y),), (("Y", A),)), (("X", A), ("Y", A)))
        self.assertEqual(then_filling((("Y", A),), (("X", B), ("Y", C))), (("X", B), ("Y", A)))
        self.assertEqual(then_filling((("X", sign("f", X)),), (("X", A),)), (("X", sign("f", A)),))
        self.assertEqual(then_filling((("Z", hole("Y", ("a", "b"))),), (("X", A), ("Y", A))),
                         (("X", A), ("Y", A), ("Z", B)))

    def test_hole_filled_with_itself(self):
        self.assertEqual(then_filling((("X", Y),), (("Y", X),)), (("X", X), ("Y", X)))
        self.assertEqual(then_filling((("X", X),), ()), (("X", X),))
        self.assertEqual(then_filling((), (("X", X),)), (("X", X),))
        self.assertEqual(then_filling((("X", hole("X", ("a", "b"))),), (("X", hole("X", ("a", "b"))),)), (("X", X),))

    def test_does_one_and_then_the_other(self):
        chance = drawn(32)
        for _ in range(400):
            term, one, other = some_term(chance, 4), some_filling(chance, 3), some_filling(chance, 3)
            both = then_filling(one, other)
            self.assertEqual(filled(term, both), fill(fill(term, one), other))
            self.assertEqual([x for x, _ in both], sorted(set([x for x, _ in one + other])))

    def test_told_fillings_may_be_deep(self):
        filling = (("X", shut("a", sign("f", X))),)
        for _ in range(9):
            filling = then_filling(filling, filling)
        self.assertEqual(filled(X, filling)[0], "shut")
        self.assertIs(keeps(then_filling(filling, (("X", sign("g", A, B)),)), (("a", "X"),)), True)
        self.assertIs(keeps(then_filling(filling, (("X", sign("g", A, B)),)), (("b", "X"),)), False)


class Keeps(unittest.TestCase):
    def test_by_hand(self):
        for filling, facts, wanted in [
            ((), (), True), ((("X", A),), (), True), ((("X", A),), (("a", "X"),), False), ((("X", A),), (("b", "X"),), True),
            ((), (("a", "X"),), False), ((("Y", B),), (("a", "X"),), False), ((("X", shut("a", A)),), (("a", "X"),), True),
            ((("X", sign("f", shut("a", A), A)),), (("a", "X"),), False), ((("X", sign("a")),), (("a", "X"),), True),
            ((("X", A), ("Y", B)), (("a", "Y"), ("b", "X")), True), ((("X", A), ("Y", B)), (("a", "Y"), ("b", "Y")), False),
            ((("X", shut("ab", sign("f", A, C))),), (("a", "X"), ("b", "X")), True),
            ((("X", shut("ab", sign("f", A, C))),), (("a", "X"), ("c", "X")), False),
        ]:
            self.assertIs(keeps(filling, facts), wanted, (filling, facts))

    def test_drawn(self):
        chance = drawn(33)
        seen = {True: 0, False: 0}
        for _ in range(500):
            filling, facts = some_filling(chance, 4, FIVE, HOLES, []), some_facts(chance, ["a", "c"], HOLES)[:3]
            seen[kept(filling, facts)] += 1
            self.assertIs(keeps(filling, facts), kept(filling, facts))
        self.assertGreater(min(seen.values()), 50)


class Refusals(unittest.TestCase):
    def test_fillings(self):
        for filling in FILLINGS:
            self.assertEqual(filled(sign("f", X, Z), filling), fill(sign("f", X, Z), filling))
            self.assertEqual(then_filling(filling, ()), filling)
            self.assertEqual(then_filling((), filling), filling)

    def test_no_filling(self):
        for thing in NO_FILLINGS + odd_but(()):
            for call in (lambda: filled(A, thing), lambda: then_filling(thing, ()), lambda: then_filling((), thing),
                         lambda: then_filling(thing, None), lambda: keeps(thing, ()), lambda: keeps(thing, None)):
                with self.assertRaises(NoFilling):
                    call()

    def test_no_term_ahead_of_no_filling(self):
        for thing in odd_but() + [("name", "A"), ["name", "a"], ("level", 0)]:
            for filling in [(), (("X", A),), None, [], thing]:
                with self.assertRaises(NoTerm):
                    filled(thing, filling)

    def test_keeps_of_what_is_not_plain(self):
        for filling in FILLINGS:
            if any(all_holes(term) for _, term in filling):
                for facts in [(), (("a", "X"),), None, []]:
                    with self.assertRaises(NoFilling):
                        keeps(filling, facts)

    def test_no_facts(self):
        for thing in NO_FACTS + odd_but(()):
            for filling in [(), (("X", A),)]:
                with self.assertRaises(NoFacts):
                    keeps(filling, thing)


if __name__ == "__main__":
    unittest.main()
