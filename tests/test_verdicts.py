"""Verdicts on books of rules, and what shows them."""

import unittest

from shutnames.errors import NoWeighing
from shutnames.fillings import filled
from shutnames.overlaps import overlaps
from shutnames.uses import steps_of
from shutnames.verdicts import shows, verdict
from shutnames.weighings import falls

from books import (APART, ASSOC, ETA, F, G, GOOD, G_TO_H, H, K, LEFT, P, PULL, Q, RIGHT, RISING, SHUT_G, SHUT_H, SHUT_H_VAIN, TWICE,
                   VAIN, W, called_otherwise, gone_through, is_closed, names_of, signs_over, some_book, some_end, some_subject)
from test_weighings import NO_WEIGHINGS, no_weighings, weight
from things import A, B, X, Y, all_holes, drawn, levels, many_odd, shut, sign

BARE = ("apart", K(A, B), [((), 0)], [((), 1)])


class Verdicts(unittest.TestCase):
    def checked(self, rules, weighing=None):
        """The verdict, with all that is told going through."""
        weighing = W if weighing is None else weighing
        told = verdict(rules, weighing)
        self.assertIs(type(told), tuple)
        if told[0] == "apart":
            self.goes_apart(rules, told)
        if told[0] == "rises":
            self.rises(rules, weighing, told)
        if told[0] == "good":
            self.assertEqual(told, ("good",))
        self.assertEqual(shows(rules, weighing, told), told[0] != "good")
        return told[0]

    def goes_apart(self, rules, told):
        _, term, uses, other_uses = told
        self.assertEqual((len(told), type(uses), type(other_uses), all_holes(term)), (4, list, list, set()))
        one, other = gone_through(term, rules, uses), gone_through(term, rules, other_uses)
        self.assertNotEqual(levels(one), levels(other), (rules, told))
        self.assertEqual((steps_of(one, rules), steps_of(other, rules)), ([], []))

    def rises(self, rules, weighing, told):
        _, k, worths = told
        self.assertEqual([falls(rule, weighing)[0] for rule in rules[:k + 1]], [True] * k + [False])
        self.assertEqual(set(worths), all_holes(rules[k][1]))
        self.assertTrue(all(type(worth) is int and worth >= 1 for worth in worths.values()))
        left, right = [weight(side, weighing, tuple(worths.items())) for side in rules[k][1:]]
        self.assertLessEqual(left, right)

    def test_rules_are_closed(self):
        for rule in [rule for book in GOOD + APART for rule in book] + RISING:
            self.assertTrue(is_closed(rule), rule)

    def test_good(self):
        for rules in GOOD:
            self.assertEqual(self.checked(rules), "good", rules)
        self.assertEqual(verdict([], {}), ("good",))

    def test_apart(self):
        for rules in APART:
            self.assertEqual(self.checked(rules), "apart", rules)

    def test_rises(self):
        for rule in RISING:
            for rules in ([rule], [VAIN, rule], [ETA, PULL, rule, rule], [rule, LEFT, RIGHT], [LEFT, RIGHT, rule]):
                self.assertEqual(self.checked(rules), "rises", rules)
                self.assertEqual(verdict(rules, W)[1], rules.index(rule))
        # A hole must weigh more than 1 for this one.
        self.assertEqual(verdict([((), K(Q, X), K(X, X))], W)[:2], ("rises", 0))
        self.assertGreaterEqual(verdict([((), K(Q, X), K(X, X))], W)[2]["X"], 2)
        self.assertEqual(verdict([RISING[2], RISING[0]], W)[:2], ("rises", 0))

    def test_whatever_order_and_calling(self):
        for rules in GOOD + APART:
            word = self.checked(rules)
            for other in (rules[::-1], rules[1:] + rules[:1], rules + rules[:1], rules[-1:] + rules, rules + rules):
                self.assertEqual(self.checked(other), word)
            for names in ({"a": "b", "b": "a"}, {"a": "z", "b": "y"}, {"a": "f", "b": "p"}):
                self.assertEqual(self.checked([called_otherwise(rule, names, {"X": "Y", "Y": "Z", "Z": "X"}) for rule in rules]), word)
            self.assertEqual(self.checked([called_otherwise(rule, {}, {"X": "A", "Y": "B"}) for rule in rules]), word)
            for signs in (dict(zip("fghkpq", "abcdex")), dict(zip("fghkpq", "fedcba")), {f: "own0" if f == "f" else f for f in "fghkpq"}):
                weighing = {(signs[f], many): worth for (f, many), worth in W.items()}
                renamed = [called_otherwise(rule, {}, {}, signs) for rule in rules]
                self.assertEqual(self.checked(renamed, weighing), word)

    def test_signs_of_many_parts(self):
        # The signs a, b and on stand in the rules, with any number of parts.
        letters = "abcdefghijklmnopqrstuvwxyz"
        more = [((), sign(f, X), X) for f in letters] + [((), sign(f), P) for f in letters if f != "p"]
        weighing = {**W, **{(f, 1): (1, (1,)) for f in letters}, **{(f, 0): (2, ()) for f in letters}, ("p", 0): (1, ())}
        rules = [((), sign("f2", G(X), Y), X), ((), sign("f2", X, G(Y)), Y)] + more[:6]
        weighing.update({("f2", 2): (1, (1, 1)), ("g", 1): (1, (1,))})
        self.assertEqual(self.checked(rules, weighing), "apart")
        self.assertEqual(self.checked(more, weighing), "good")

    def test_only_because_of_facts(self):
        # What vain gives up is put together again but by its fact, which the overlap has.
        self.assertEqual(self.checked([PULL]), "good")
        self.assertEqual(self.checked([PULL, VAIN]), "good")
        self.assertEqual(self.checked([SHUT_G, G_TO_H, SHUT_H]), "good")
        self.assertEqual(self.checked([SHUT_G, G_TO_H, SHUT_H_VAIN]), "apart")
        self.assertEqual(self.checked([((("a", "X"),), shut("a", G(X)), P), G_TO_H, SHUT_H_VAIN]), "good")

    def test_only_after_some_uses(self):
        _, facts, _, first, second = overlaps([ASSOC], 0, 0)[0]
        self.assertTrue(facts == () and steps_of(first, [ASSOC]) and steps_of(second, [ASSOC]))
        self.assertEqual(self.checked([ASSOC]), "good")
        self.assertEqual(self.checked([ASSOC, ((), F(X, F(X, Y)), X)]), "apart")

    def test_new_names_of_uses(self):
        # Both terms of the overlap get shuts of new names: they are alike, whatever these are.
        weighing = {**W, ("g", 1): (9, (9,))}
        bring, again, otherwise = [(((a, "X"),), G(X), shut(a, part)) for a, part in [("a", K(X, A)), ("b", K(X, B)), ("a", K(A, X))]]
        for rules, word in [([bring, again], "good"), ([again, bring], "good"), ([bring, otherwise], "apart"), ([bring, bring], "good")]:
            self.assertTrue(all(is_closed(rule) and falls(rule, weighing)[0] for rule in rules))
            self.assertEqual(self.checked(rules, weighing), word)
            outside = [((), F(X, Y), G(G(X))), ((), F(X, P), G(G(X)))]
            self.assertEqual(self.checked(rules + outside, {**weighing, ("f", 2): (200, (99, 99))}), word)

    def test_drawn(self):
        chance = drawn(241)
        words = {"good": 0, "apart": 0}
        for _ in range(150):
            rules = some_book(chance)
            word = self.checked(rules)
            words[word] += 1
            if word == "good":
                self.has_one_end(chance, rules)
        self.assertGreater(min(words.values()), 40)

    def has_one_end(self, chance, rules):
        for _ in range(4):
            term = some_subject(chance, rules)
            ends = [levels(some_end(chance, term, rules)[0]) for _ in range(3)]
            self.assertEqual(ends[1:], ends[:-1], (rules, term))

    def test_overlaps_filled(self):
        """A book is apart just where some overlap, filled with signs of its own, has ends that are unlike."""
        chance = drawn(242)
        for rules in GOOD + APART + [some_book(chance) for _ in range(60)]:
            unlike = False
            for i in range(len(rules)):
                for j in range(len(rules)):
                    for _, facts, whole, first, second in overlaps(rules, i, j):
                        names = set().union(*[names_of(((), whole, side)) for side in (first, second)])
                        filling = signs_over(whole, names, facts)
                        ends = [some_end(chance, filled(side, filling), rules)[0] for side in (first, second)]
                        unlike = unlike or levels(ends[0]) != levels(ends[1])
            self.assertEqual(verdict(rules, W)[0] == "apart", unlike)

    def test_lists_changed(self):
        rules = [LEFT, RIGHT]
        told = verdict(rules, W)
        term, uses = told[1], list(told[2])
        told[2].clear()
        told[3].append(None)
        self.assertEqual(rules, [LEFT, RIGHT])
        again = verdict(rules, W)
        self.assertEqual((levels(again[1]), again[2]), (levels(term), uses))
        rises = verdict([RISING[2]], W)
        rises[2].clear()
        self.assertEqual(verdict([RISING[2]], W)[2], {"X": 1, "Y": 1})

    def test_what_is_handed_in_stays(self):
        weighing = dict(W)
        for rules in (APART[0], GOOD[-1], [RISING[2]]):
            before = list(rules)
            told = verdict(rules, weighing)
            shows(rules, weighing, told)
            self.assertEqual((rules, weighing), (before, W))


class Shows(unittest.TestCase):
    def all_false(self, rules, things, weighing=None):
        for thing in things:
            self.assertIs(shows(rules, W if weighing is None else weighing, thing), False, thing)

    def test_good_is_not_shown(self):
        for rules in GOOD + APART + [[RISING[0]]]:
            self.all_false(rules, [("good",), "good", ["good"], ("good", None)])

    def test_rises_told_otherwise(self):
        rules = [VAIN, ((), K(Q, X), K(X, X)), ((), K(X, Y), F(X, Y)), ((), P, Q)]
        for worths in ({"X": 2}, {"X": 3}, {"X": 10 ** 19}):
            self.assertIs(shows(rules, W, ("rises", 1, worths)), True)
            self.assertIs(shows(rules[1:], W, ("rises", 0, worths)), True)
        self.assertIs(shows([((), P, Q)], W, ("rises", 0, {})), True)
        for worths in ({"X": 1, "Y": 1}, {"X": 5, "Y": 2}, {"Y": 1, "X": 7}):
            self.assertIs(shows(rules[2:], W, ("rises", 0, worths)), True)

    def test_rises_wrongly(self):
        rules = [VAIN, ((), K(Q, X), K(X, X)), ((), K(X, Y), F(X, Y)), ((), P, Q)]
        self.all_false(rules, [("rises", 1, worths) for worths in (
            {}, {"X": 1}, {"X": 0}, {"X": -5}, {"X": True}, {"X": "2"}, {"X": None}, {"X": (2,)}, {"Y": 2}, {"X": 2, "Y": 2}, {"X": 2, None: 1},
            {"x": 2}, [("X", 2)], (("X", 2),), None, 2, "X", {("X",): 2}, {"X": 2, (): 2})])
        self.all_false(rules, [("rises", k, {"X": 2}) for k in (0, 2, 3, -3, 4, True, None, "1", (1,), 10 ** 20)])
        self.all_false(rules, [("rises", 2, {"X": 1, "Y": 1}), ("rises", 3, {}), ("rises", 0, {"X": 1})])
        self.all_false(rules, [["rises", 1, {"X": 2}], ("rises", 1), ("rises", 1, {"X": 2}, ()), ("Rises", 1, {"X": 2}), (1, {"X": 2}),
                               ({"X": 2}, 1, "rises"), (None, 1, {"X": 2}), ("apart", 1, {"X": 2})])
        self.assertIs(shows(rules, W, ("rises", 1, {"X": 2})), True)
        self.all_false([((), P, Q)], [("rises", False, {}), ("rises", 0, {"X": 1}), ("rises", 0, {None: 1}), ("rises", 0, ())])
        self.all_false([((), H(X), G(X))], [("rises", False, {"X": 1}), ("rises", 0, {"X": True})])
        # All fall.
        self.all_false([VAIN], [("rises", 0, {"X": 1}), ("rises", 1, {})])
        self.all_false([], [("rises", 0, {})])

    def test_apart_told_otherwise(self):
        rules = [LEFT, RIGHT, ASSOC]
        self.assertIs(shows(rules, W, BARE), True)
        self.assertIs(shows(rules, W, ("apart", K(A, B), [((), 1)], [((), 0)])), True)
        term = shut("a", sign("t", K(A, P), F(F(P, A), B)))
        for one, other in [([((0, 0), 0), ((0, 1), 2)], [((0, 0), 1), ((0, 1), 2)]), ([((0, 1), 2), ((0, 0), 0)], [((0, 0), 1), ((0, 1), 2)])]:
            self.assertIs(shows(rules, W, ("apart", term, one, other)), True)
        self.assertIs(shows(rules, W, ("apart", K(K(A, B), B), [((), 0), ((), 0)], [((), 1)])), True)

    def test_apart_wrongly(self):
        rules = [LEFT, RIGHT, ASSOC]
        uses, others = [((), 0)], [((), 1)]
        for term in (K(A, A), K(shut("a", A), shut("b", B)), K(X, Y), K(A, X), X, F(A, B), K(A, B)[:2], None, "k(a, b)", [], ("level", 0), P):
            self.all_false(rules, [("apart", term, uses, others)])
        term = K(A, B)
        for wrong in ([], [((), 0), ((), 0)], [((), 2)], [((), 3)], [((), -1)], [((), True)], [((), False)], [((), "0")], [((), None)],
                      [((0,), 0)], [((2,), 0)], [([], 0)], [(None, 0)], [("", 0)], [(0, 0)], [((), 0, 0)], [((),)], [()], [[(), 0]], [None],
                      ["()"], ((), 0), (((), 0),), ({}, 0), {}, None, 0, True, "x", {(): 0}):
            self.all_false(rules, [("apart", term, wrong, others), ("apart", term, others, wrong)])
        self.all_false(rules, [("apart", term, tuple(uses), tuple(others)), ("apart", term, uses, uses), ("apart", term, others, others)])
        self.all_false(rules, [list(BARE), BARE[:3], BARE + ([],), ("Apart",) + BARE[1:], (None,) + BARE[1:], BARE[1:], {}, ({},) + BARE[1:]])
        # They stop too early.
        self.all_false(rules, [("apart", K(K(A, B), P), [((), 0)], [((), 1)]), ("apart", K(K(A, B), P), [], [((), 1)])])
        self.assertIs(shows(rules, W, ("apart", K(K(A, B), P), [((), 0), ((), 0)], [((), 1)])), True)
        place = [((True,), 0)]
        self.all_false(rules, [("apart", sign("t", P, K(A, B)), place, [((1,), 1)]), ("apart", sign("t", P, K(A, B)), [((1,), 0)], place)])
        self.all_false(rules, [("apart", sign("t", K(A, B)), [((False,), 0)], [((0,), 1)])])

    def test_apart_where_a_rule_does_not_fall(self):
        rules = [LEFT, RIGHT, ((), P, Q)]
        self.assertIs(shows(rules[:2], W, BARE), True)
        self.all_false(rules, [BARE])
        self.assertIs(shows(rules, W, ("rises", 2, {})), True)

    def test_good_books_are_not_shown(self):
        self.all_false([ASSOC], [("apart", F(F(F(A, B), P), P), [((), 0), ((), 0)], [((0,), 0), ((), 0), ((1,), 0)])])
        self.all_false([TWICE], [("apart", G(A), [((), 0)], [((), 0)])])
        self.all_false([], [("apart", A, [], [])])

    def test_anything(self):
        for rules in ([LEFT, RIGHT], [VAIN], [((), P, Q)]):
            self.all_false(rules, many_odd())
            self.all_false(rules, [("apart", thing, thing, thing) for thing in many_odd()])
            self.all_false(rules, [("apart", K(A, B), [((), 0)], thing) for thing in many_odd()])
            self.all_false(rules, [("apart", K(A, B), [((), 0)], [thing]) for thing in many_odd()])
            self.all_false(rules, [("apart", K(A, B), [((), 0)], [(thing, 1)]) for thing in many_odd() if thing != ()])
            self.all_false(rules, [("apart", K(A, B), [((), 0)], [((), thing)]) for thing in many_odd() if thing is True or thing != 1])
            self.all_false(rules, [(thing, 0, {}) for thing in many_odd()])
        self.all_false([((), P, Q)], [("rises", thing, {}) for thing in many_odd() if thing is False or thing != 0])
        self.all_false([((), P, Q)], [("rises", 0, thing) for thing in many_odd() if thing != {}])


class Refusals(unittest.TestCase):
    def test_no_weighing(self):
        for weighing in no_weighings():
            for rules in ([LEFT], [], [((), P, Q)], APART[0]):
                with self.assertRaises(NoWeighing):
                    verdict(rules, weighing)
                for told in (BARE, ("good",), ("rises", 0, {}), None, [], "x"):
                    with self.assertRaises(NoWeighing):
                        shows(rules, weighing, told)
        self.assertTrue(NO_WEIGHINGS)

    def test_sign_that_lacks(self):
        for rules in (GOOD + APART)[1:]:
            used = {(part[1], len(part[2])) for rule in rules for side in rule[1:] for part in self.parts(side) if part[0] == "sign"}
            for key in sorted(used):
                weighing = {sign_: W[sign_] for sign_ in W if sign_ != key}
                weighing[(key[0], key[1] + 1)] = (1, (1,) * (key[1] + 1))
                for call in (lambda: verdict(rules, weighing), lambda: shows(rules, weighing, BARE), lambda: shows(rules, weighing, None)):
                    with self.assertRaises(NoWeighing):
                        call()
            self.assertIn(verdict(rules, {key: W[key] for key in used})[0], ("good", "apart"))
        # Also of a rule behind one that rises.
        with self.assertRaises(NoWeighing):
            verdict([((), P, Q), ((), sign("z"), P)], W)
        with self.assertRaises(NoWeighing):
            shows([((), P, Q), ((), P, sign("z"))], W, ("rises", 0, {}))

    def parts(self, term):
        found = [term]
        for part in found:
            found.extend(part[2] if part[0] == "sign" else part[2:] if part[0] == "shut" else ())
        return found


if __name__ == "__main__":
    unittest.main()
