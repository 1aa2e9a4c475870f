"""Weighings of terms, and rules that fall by them."""

import itertools
import unittest

from shutnames.errors import HasHoles, NoTerm, NoWeighing
from shutnames.uses import steps_of
from shutnames.weighings import falls, weight_of

from test_terms import NO_TERMS
from things import (A, B, X, Y, Z, all_holes, drawn, fill, hole, inner, many_odd, shut, sign, some_term)

W = {("f", 0): (1, ()), ("f", 1): (2, (3,)), ("f", 2): (5, (1, 2)), ("g", 1): (1, (1,)), ("a", 0): (7, ()), ("a", 1): (1, (1,)),
     ("h", 3): (1, (1, 1, 4)), ("g", 0): (4, ()), ("g", 2): (1, (1, 1)), ("f", 3): (1, (2, 1, 1)), ("g", 3): (3, (1, 2, 1)),
     ("a", 2): (1, (2, 3)), ("a", 3): (2, (1, 1, 1))}
NO_WEIGHINGS = [
    [], (), None, True, "f", [(("f", 0), (1, ()))], {"f": (1, ())}, {("f",): (1, ())}, {("f", 0, 0): (1, ())}, {("F", 0): (1, ())},
    {("", 0): (1, ())}, {("abcdefghi", 0): (1, ())}, {(0, "f"): (1, ())}, {(None, 0): (1, ())}, {(("f",), 0): (1, ())},
    {("f", "0"): (1, ())}, {("f", None): (1, ())}, {("f", -1): (1, ())}, {("f", True): (1, (1,))}, {("f", False): (1, ())},
    {("f", 0): [1, ()]}, {("f", 0): (1, [])}, {("f", 1): (1, [1])}, {("f", 0): (1,)}, {("f", 0): (1, (), ())}, {("f", 0): ()},
    {("f", 0): 1}, {("f", 0): None}, {("f", 0): (0, ())}, {("f", 0): (-1, ())}, {("f", 0): (True, ())}, {("f", 0): ("1", ())},
    {("f", 0): (None, ())}, {("f", 0): ((1,), ())}, {("f", 0): ((), 1)}, {("f", 0): (1, (1,))}, {("f", 1): (1, ())},
    {("f", 1): (1, (1, 1))}, {("f", 1): (1, (0,))}, {("f", 1): (1, (-2,))}, {("f", 1): (1, (True,))}, {("f", 1): (1, ("1",))},
    {("f", 1): (1, (None,))}, {("f", 2): (1, (1, (1,)))}, {("f", 2): (1, (1,))}, {("f", 1): (1, 1)}, {("f", 0): (1, None)},
    {("f", 0): (1, ()), "g": (1, ())}, {("f", 0): (1, ()), ("g", 0): (0, ())}, {("f", 0): (1, ()), ("g", 1): (1, ())}, {None: None},
    {("f", 0): {}}, {("f", 0): (1, {})},
]


def no_weighings():
    return NO_WEIGHINGS + [thing for thing in many_odd() if thing not in ({}, {("f", 0): (1, ())})]


def weight(term, weighing, worths=()):
    """The weight of a term whose holes weigh so much, by recursion."""
    if term[0] == "name":
        return 1
    if term[0] == "hole":
        return dict(worths)[term[2]]
    if term[0] == "shut":
        return weight(term[2], weighing, worths) + 1
    own, times = weighing[(term[1], len(term[2]))]
    return own + sum(many * weight(part, weighing, worths) for part, many in zip(inner(term), times))


class Weights(unittest.TestCase):
    def test_by_hand(self):
        for term, wanted in [
            (A, 1), (shut("a", A), 2), (shut("ab", A), 3), (sign("f"), 1), (sign("f", A), 5), (sign("f", A, B), 8),
            (sign("a"), 7), (sign("a", A), 2), (sign("f", sign("f", A)), 17), (sign("f", A, sign("f", A)), 16),
            (sign("f", sign("f", A), A), 12), (sign("h", A, shut("a", A), shut("b", sign("g", A))), 16),
            (shut("a", sign("f", shut("b", sign("f")))), 9),
        ]:
            self.assertEqual(weight_of(term, W), wanted, term)
        self.assertEqual(weight_of(A, {}), 1)
        self.assertEqual(weight_of(shut("abc", A), {}), 4)

    def test_great_numbers(self):
        most = 10 ** 20 - 1
        self.assertEqual(weight_of(sign("f", sign("f", A)), {("f", 1): (most, (most,))}), most + most * (most + most))

    def test_drawn(self):
        chance = drawn(111)
        for _ in range(200):
            term = some_term(chance, 6, holes=[])
            self.assertEqual(weight_of(term, W), weight(term, W))
            self.assertIs(type(weight_of(term, W)), int)

    def test_deep(self):
        term = A
        for _ in range(400):
            term = sign("g", shut("a", term))
        self.assertEqual(weight_of(term, W), 801)


class Falls(unittest.TestCase):
    def rises(self, rule, weighing=None):
        """The worths told, by which the left side doesn't weigh more."""
        weighing = W if weighing is None else weighing
        told = falls(rule, weighing)
        self.assertIs(type(told), tuple)
        self.assertIs(told[0], False)
        self.assertEqual((len(told), type(told[1])), (2, dict))
        self.assertEqual(sorted(told[1]), sorted(all_holes(rule[1])))
        for worth in told[1].values():
            self.assertTrue(type(worth) is int and worth >= 1)
        self.assertLessEqual(weight(rule[1], weighing, told[1]), weight(rule[2], weighing, told[1]))
        return told[1]

    def test_rules_that_fall(self):
        for rule in [
            ((), sign("f", X), X), ((), sign("g", X), X), ((), shut("a", X), X), ((), sign("f", X, Y), sign("g", X)),
            ((), sign("g"), sign("f")), ((), sign("g"), shut("ab", A)), ((("a", "X"),), shut("a", sign("g", X)), shut("b", X)),
            ((), sign("f", X), sign("g", sign("g", X, X))), ((), sign("f", X), shut("a", X)),
            ((), sign("f", X, Y), sign("g", X, Y)), ((), sign("f", X, Y), sign("g", sign("g", X, Y), Y)),
            ((), sign("h", X, Y, Z), sign("g", sign("g", Z, Z), Z)), ((), shut("ab", sign("f", X, Y)), shut("ab", sign("g", Y, X))),
            ((), sign("f", hole("X", ("a", "b"))), hole("X", ("a", "b"))),
        ]:
            self.assertEqual(falls(rule, W), (True, None), rule)

    def test_rules_that_do_not(self):
        # f() weighs 1, a name 1: both sides alike heavy. The others by hand likewise.
        self.assertEqual(self.rises(((), sign("f"), sign("f"))), {})
        self.assertEqual(self.rises(((), sign("f"), shut("a", A))), {})
        self.assertEqual(self.rises(((), sign("f"), sign("g"))), {})
        self.assertEqual(set(self.rises(((), sign("g", X), sign("g", X)))), {"X"})
        self.assertEqual(set(self.rises(((), sign("g", X), shut("a", X)))), {"X"})
        self.assertEqual(set(self.rises(((), shut("a", X), sign("g", X)))), {"X"})
        self.assertEqual(set(self.rises(((), sign("g", X, Y), sign("g", Y, X)))), {"X", "Y"})
        # 1 + x against 1 + x + x: never more; 5 + x + 2y against 1 + 2x: not where x is 4 + 2y or more.
        self.rises(((), sign("g", X), sign("g", X, X)))
        worths = self.rises(((), sign("f", X, Y), sign("g", X, X)))
        self.assertGreaterEqual(worths["X"], 4 + 2 * worths["Y"])
        # 1 + x + y + 4z against 5 + y + 2y: not where y is great.
        worths = self.rises(((), sign("h", X, Y, Z), sign("f", Y, Y)))
        self.assertGreaterEqual(2 * worths["Y"], worths["X"] + 4 * worths["Z"] - 4)

    def test_a_hole_that_weighs_as_much(self):
        # 2 + 3x against 2 + 3x; 2 + 3x against 3 + 3x and against 1 + 3x.
        right = sign("k", X)
        for own, wanted in [(1, True), (2, False), (3, False)]:
            self.assertIs(falls(((), sign("f", X), right), {**W, ("k", 1): (own, (3,))})[0], wanted)
        # 10 + x against 1 + 2x: not from x = 9 on; all lesser ones are lighter at the right.
        far = {("u", 1): (10, (1,)), ("v", 1): (1, (2,))}
        self.assertGreaterEqual(self.rises(((), sign("u", X), sign("v", X)), far)["X"], 9)
        most = 10 ** 20 - 1
        far = {("u", 1): (most, (1,)), ("v", 1): (1, (2,))}
        self.assertGreaterEqual(self.rises(((), sign("u", X), sign("v", X)), far)["X"], most - 1)
        far = {("u", 2): (most, (1, most)), ("v", 2): (1, (1, most)), ("w", 1): (1, (most,))}
        self.assertGreaterEqual(self.rises(((), sign("u", X, Y), sign("w", X)), far)["X"], 2)
        self.assertEqual(falls(((), sign("u", X, Y), sign("v", X, Y)), far), (True, None))

    def test_against_worths(self):
        chance = drawn(112)
        seen = {True: 0, False: 0}
        while min(seen.values()) < 150:
            left, right = sign("f", some_term(chance, 3, holes=["X", "Y"])), some_term(chance, 3, holes=["X", "Y"])
            if not all_holes(right) <= all_holes(left):
                continue
            holes = sorted(all_holes(left))
            told = falls(((), left, right), W)
            seen[told[0]] += 1
            if not told[0]:
                self.rises(((), left, right))
                continue
            self.assertEqual(told, (True, None))
            for worths in itertools.product([1, 2, 3, 10, 1000], repeat=len(holes)):
                put = dict(zip(holes, worths))
                self.assertGreater(weight(left, W, put), weight(right, W, put))

    def test_uses_make_plain_terms_lighter(self):
        chance = drawn(113)
        rules = [((("a", "X"),), shut("a", sign("f", X, A)), X), ((), sign("f", X), sign("g", X)), ((), sign("f", X, Y), sign("g", X, Y))]
        self.assertEqual([falls(rule, W)[0] for rule in rules], [True] * 3)
        for _ in range(100):
            term = some_term(chance, 5, ["a", "b"], [])
            for _, _, told, _ in steps_of(term, rules):
                self.assertLess(weight_of(told, W), weight_of(term, W))

    def test_worths_are_weights_of_plain_terms(self):
        rule = ((), sign("f", X, Y), sign("g", X, X))
        worths = self.rises(rule)
        tower = {x: shut(["n" + str(at) for at in range(worth - 1)], A) for x, worth in worths.items()}
        left, right = [fill(side, tuple(sorted(tower.items()))) for side in rule[1:]]
        self.assertLessEqual(weight_of(left, W), weight_of(right, W))


class Refusals(unittest.TestCase):
    def test_no_term(self):
        for thing in NO_TERMS + many_odd():
            for weighing in (W, {}, None, []):
                with self.assertRaises(NoTerm):
                    weight_of(thing, weighing)

    def test_has_holes(self):
        for term in (X, shut("a", X), sign("f", A, hole("Y", ("a", "b"))), sign("lacking", X)):
            for weighing in (W, {}, None, {("f", 0): (0, ())}):
                with self.assertRaises(HasHoles):
                    weight_of(term, weighing)

    def test_no_weighing(self):
        for thing in no_weighings():
            for call in (lambda: weight_of(A, thing), lambda: weight_of(sign("f"), thing),
                         lambda: falls(((), sign("f"), sign("f")), thing), lambda: falls(((), shut("a", X), X), thing)):
                with self.assertRaises(NoWeighing, msg=thing):
                    call()

    def test_lacking_signs(self):
        less = {key: W[key] for key in W if key != ("f", 1)}
        for term in (sign("f", A), sign("g", sign("f", A)), shut("a", sign("f", sign("f"))), sign("k"), sign("f", A, A, A, A)):
            with self.assertRaises(NoWeighing):
                weight_of(term, less)
        self.assertEqual(weight_of(sign("f", A, B), less), 8)
        for rule in [((), sign("f", X), X), ((), sign("g", X), sign("f", X)), ((), shut("a", sign("f", X)), X),
                     ((), sign("f", X, Y), shut("a", sign("f", Y))), ((), sign("g"), sign("q"))]:
            with self.assertRaises(NoWeighing):
                falls(rule, less)
        self.assertEqual(falls(((), sign("f", X, Y), X), less), (True, None))

    def test_weighings_stay(self):
        weighing = {("f", 1): (2, (3,)), ("g", 1): (1, (1,))}
        handed = dict(weighing)
        weight_of(sign("f", A), handed)
        told = falls(((), sign("g", X), sign("f", X)), handed)
        self.assertEqual(handed, weighing)
        told[1].clear()
        self.assertEqual(list(falls(((), sign("g", X), sign("f", X)), handed)[1]), ["X"])
        back = dict(reversed(list(weighing.items())))
        self.assertEqual(falls(((), sign("g", X), sign("f", X)), back)[0], False)


if __name__ == "__main__":
    unittest.main()
