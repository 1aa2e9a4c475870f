"""Overlaps of rules."""

import unittest

from shutnames.errors import Missing
from shutnames.facts import needs
from shutnames.fillings import filled
from shutnames.overlaps import overlaps
from shutnames.patterns import matched
from shutnames.terms import put_at
from shutnames.uses import steps_of

from books import (APART, ASSOC, ETA, F, G, GOOD, G_TO_H, H, K, LEFT, P, PULL, Q, RIGHT, SHUT_G, TWICE, VAIN, plain_parts,
                   signs_over, some_book, some_part, some_rule)
from things import A, B, THREE, X, Y, Z, all_holes, all_names, all_parts, drawn, hole, lead, levels, name, shut, sign

# Terms are led so, off the names of the rules.
AWAY = tuple(sorted([(a, "away" + a) for a in THREE] + [("away" + a, a) for a in THREE]))


class Overlaps(unittest.TestCase):
    def checked(self, rules, i, j):
        """What is told has the right form, and filled with signs both rules lead on from it as told."""
        told = overlaps(rules, i, j)
        self.assertIs(type(told), list)
        self.assertEqual([overlap[0] for overlap in told], sorted({overlap[0] for overlap in told}))
        self.assertTrue({overlap[0] for overlap in told} <= set(plain_parts(rules[i])) - ({()} if i == j else set()))
        for overlap in told:
            self.assertEqual((type(overlap), len(overlap)), (tuple, 5))
            self.led(rules, i, j, overlap)
        return told

    def led(self, rules, i, j, overlap):
        place, facts, whole, first, second = overlap
        names = all_names(whole) | all_names(first) | all_names(second) | {a for a, _ in facts}
        self.assertTrue(all_holes(first) | all_holes(second) | {x for _, x in facts} <= all_holes(whole))
        for more in ([], ["new1", "new2"]):
            filling = signs_over(whole, names | set(more), facts)
            steps = {step[:2]: step[2] for step in steps_of(filled(whole, filling), rules)}
            self.assertEqual(levels(steps[((), i)]), levels(filled(first, filling)), (rules, overlap))
            self.assertEqual(levels(steps[(place, j)]), levels(filled(second, filling)), (rules, overlap))
            # Outside of the place nothing is done by the second rule.
            self.assertEqual(levels(put_at(filled(second, filling), place, P)), levels(put_at(filled(whole, filling), place, P)))

    def test_by_hand(self):
        for rules, i, j, wanted in [
            ([LEFT, RIGHT], 0, 1, [((), K(X, Y), X, Y)]), ([LEFT, RIGHT], 1, 0, [((), K(X, Y), Y, X)]), ([LEFT, RIGHT], 0, 0, []),
            ([ASSOC], 0, 0, [((0,), F(F(F(X, Y), Z), hole("U")), F(F(X, Y), F(Z, hole("U"))), F(F(X, F(Y, Z)), hole("U")))]),
            ([SHUT_G, G_TO_H], 0, 1, [((0,), shut("a", G(X)), P, shut("a", H(X)))]), ([SHUT_G, G_TO_H], 1, 0, []),
            ([PULL, VAIN], 0, 1, [((0,), G(shut("a", X)), shut("a", G(X)), G(X))]), ([PULL, VAIN], 1, 0, []),
            ([((), G(G(X)), H(X))], 0, 0, [((0,), G(G(G(X))), H(G(X)), G(H(X)))]), ([VAIN, ETA], 0, 1, []), ([VAIN, ETA], 1, 0, []),
            ([VAIN, VAIN], 0, 1, [((), shut("a", X), X, X)]), ([VAIN, VAIN], 0, 0, []), ([ETA, ASSOC], 1, 0, []),
            ([ETA, ASSOC], 0, 1, [((0,), shut("a", F(F(X, Y), A)), F(X, Y), shut("a", F(X, F(Y, A))))]),
            ([((), F(G(X), G(Y)), P), TWICE], 0, 1,
             [((0,), F(G(X), G(Y)), P, F(K(X, X), G(Y))), ((1,), F(G(X), G(Y)), P, F(G(X), K(Y, Y)))]),
            ([((), F(G(X), P), X), ((), P, Q), ((), F(X, X), G(X))], 0, 1, [((1,), F(G(X), P), X, F(G(X), Q))]),
            ([((), F(G(X), P), X), ((), P, Q), ((), F(X, X), G(X))], 0, 2, []),
            ([((), F(G(X), Y), X), ((), F(X, X), G(X))], 0, 1, [((), F(G(X), G(X)), X, G(G(X)))]),
            ([((), shut("a", shut("b", K(A, B))), P), ((), shut("a", K(A, A)), P)], 0, 1, []),
        ]:
            told = self.checked(rules, i, j)
            self.assertEqual([overlap[0] for overlap in told], [row[0] for row in wanted], (rules, i, j))
            for overlap, row in zip(told, wanted):
                self.assertTrue(self.as_wide(overlap, row), (overlap, row))

    def as_wide(self, overlap, row):
        """Whether each of the two is the other one filled, under the told facts."""
        wide = sign("t", *overlap[2:])
        by_hand = sign("t", *[self.barred_apart(part) for part in row[1:]])
        there, back = matched(wide, by_hand, facts=self.free_facts(by_hand)), matched(by_hand, wide, facts=overlap[1])
        return there is not None and back is not None

    def barred_apart(self, term):
        """The term with its holes called otherwise than the told ones may be."""
        if term[0] == "hole":
            return ("hole", term[1], term[2] + "HAND")
        if term[0] == "shut":
            return ("shut", term[1], self.barred_apart(term[2]))
        return term if term[0] == "name" else ("sign", term[1], tuple(self.barred_apart(part) for part in term[2]))

    def free_facts(self, term):
        """All facts that these rules could have of the holes."""
        return tuple(sorted((a, x) for a in ["a", "b", "c", "d", "e", "f", "g"] for x in all_holes(term)))

    def test_own_names_and_holes_stay(self):
        rule, other = ((), shut("q", F(G(hole("Q")), name("q"))), P), ((("z", "X"),), G(hole("X", ("y", "z"))), X)
        for place, facts, whole, first, _ in self.checked([rule, other], 0, 1):
            self.assertEqual((place, first), ((0, 0), P))
            self.assertEqual(whole[:2] + whole[2][:2] + whole[2][2][1:], ("shut", "q", "sign", "f", name("q")))
        # The holes of a rule with itself are kept apart.
        told = overlaps([((), F(F(X, Y), Z), P)], 0, 0)
        self.assertEqual(len(all_holes(told[0][2])), 4)

    def test_new_names_are_none_of_the_first_rule(self):
        # Else the shut b, which one rule has, would be told apart from the b that the other one has.
        one = ((), shut("ab", K(G(X), A)), P)
        for b in ("a", "b", "c"):
            other = (((b, "X"),), G(shut(b, X)), X)
            told = self.checked([one, other], 0, 1)
            self.assertEqual([overlap[0] for overlap in told], [(0, 0, 0)])
            new = all_names(told[0][2]) - {"a", "b"}
            holes = all_holes(told[0][2])
            self.assertTrue({(c, x) for c in new for x in holes} <= set(told[0][1]))
            self.assertFalse({(c, x) for c in "ab" for x in holes} & set(told[0][1]))

    def test_facts_of_both(self):
        one = ((("a", "X"),), shut("a", F(G(X), Y)), X)
        other = ((("b", "Y"),), G(shut("b", Y)), Y)
        told = self.checked([one, other], 0, 1)[0]
        holes = all_holes(told[2])
        self.assertEqual(len(holes), 2)
        (x,) = all_holes(told[3])
        barred = {a for a, y in told[1] if y == x}
        self.assertIn("a", barred)
        self.assertEqual({a for _, part in all_parts(told[2]) if part[0] == "shut" for a in [part[1]]} - barred, set())
        # Of the hole that just the first rule has the new names alone are barred.
        (y,) = holes - {x}
        self.assertNotIn("a", {a for a, z in told[1] if z == y})
        # Facts against it: what is shut must stand in a hole that it is barred from.
        self.assertEqual(self.checked([((("a", "X"),), shut("a", G(X)), P), ((), G(K(X, Q)), P)], 0, 1)[0][0], (0,))
        self.assertEqual(overlaps([ETA, VAIN], 0, 1), [])
        self.assertEqual(overlaps([((("a", "X"),), shut("a", F(X, X)), P), ((), shut("a", F(X, A)), P)], 0, 1), [])
        self.assertEqual(len(self.checked([((), shut("a", F(X, X)), P), ((), shut("a", F(X, A)), P)], 0, 1)), 1)

    def test_holes_under_turns(self):
        turned = ((("a", "X"), ("b", "X")), G(hole("X", ("a", "b"))), X)
        other = ((), G(F(hole("X", ("c", "d")), Y)), F(hole("X", ("c", "d")), Y))
        for rules in ([turned, other], [other, turned], [turned, turned], [other, other]):
            self.assertEqual([overlap[0] for overlap in self.checked(rules, 0, 1)], [()])
        two = ((), shut("ab", F(X, hole("X", ("a", "b")))), P)
        for rules in ([two, two], [two, ((), shut("ab", F(A, Y)), P)], [two, ((), F(X, X), X)]):
            self.checked(rules, 0, 1)
        told = self.checked([two, ((), F(X, X), X)], 0, 1)
        self.assertEqual([overlap[0] for overlap in told], [(0, 0)])
        (x,) = all_holes(told[0][2])
        self.assertTrue({("a", x), ("b", x)} <= set(told[0][1]))

    def test_books_by_hand(self):
        seen = 0
        for rules in GOOD + APART:
            for i in range(len(rules)):
                for j in range(len(rules)):
                    seen += len(self.checked(rules, i, j))
        self.assertGreater(seen, 40)

    def test_drawn(self):
        chance = drawn(231)
        seen = 0
        for _ in range(200):
            rules = [some_rule(chance), some_rule(chance)]
            for i, j in [(0, 0), (0, 1), (1, 0), (1, 1)]:
                seen += len(self.checked(rules, i, j))
        self.assertGreater(seen, 120)

    def test_a_rule_twice(self):
        for rule in (ASSOC, VAIN, ETA, TWICE, PULL):
            alone = overlaps([rule], 0, 0)
            both = self.checked([rule, rule], 0, 1)
            self.assertEqual([overlap[0] for overlap in both], [()] + [overlap[0] for overlap in alone])
            self.assertEqual([overlap[0] for overlap in overlaps([rule, rule], 1, 1)], [overlap[0] for overlap in alone])
            self.assertIsNotNone(needs(("alike", both[0][3], both[0][4])))

    def test_each_term_is_an_overlap_filled(self):
        """Where two rules can be used on a term, the one within the other's left side, it is one of those told, filled."""
        chance = drawn(232)
        seen = 0
        for _ in range(150):
            rules = [some_rule(chance), some_rule(chance)]
            for i, j in [(0, 0), (0, 1), (1, 0), (1, 1)]:
                told = overlaps(rules, i, j)
                for _ in range(4):
                    seen += self.covered(rules, i, j, told, self.brought_together(chance, rules[i], rules[j]))
        self.assertGreater(seen, 200)

    def brought_together(self, chance, rule, other):
        """The first rule's left side, filled, perhaps with the other's put into it."""
        def some(left):
            return filled(left, tuple((x, some_part(chance, 2, THREE, [])) for x in sorted(all_holes(left))))

        term = some(rule[1])
        if chance.random() < 0.5:
            term = put_at(term, chance.choice(plain_parts(rule)), some(other[1]))
        return term

    def covered(self, rules, i, j, told, term):
        led = [step[:2] for step in steps_of(term, rules)]
        places = [place for place in plain_parts(rules[i]) if (place, j) in led and (place or i != j)]
        if ((), i) not in led:
            return 0
        for place in places:
            there = [overlap for overlap in told if overlap[0] == place]
            self.assertEqual(len(there), 1, (rules, term, place))
            self.assertFalse(all_names(there[0][2]) & all_names(lead(AWAY, term)))
            self.assertIsNotNone(matched(there[0][2], lead(AWAY, term), asked=there[0][1]), (rules, term, place))
        return len(places)


class RefusalsAndLists(unittest.TestCase):
    def test_missing(self):
        rules = [VAIN, ETA, PULL]
        for i, j, number in [(3, 0, 3), (0, 3, 3), (-1, 0, -1), (0, -1, -1), (7, 9, 7), (9, 7, 9), (10 ** 20, 0, 10 ** 20), (3, 3, 3)]:
            with self.assertRaises(Missing) as caught:
                overlaps(rules, i, j)
            self.assertEqual(caught.exception.number, number)
            self.assertIsInstance(caught.exception, KeyError)
        with self.assertRaises(Missing) as caught:
            overlaps([], 0, 1)
        self.assertEqual(caught.exception.number, 0)

    def test_lists_changed(self):
        rules = [ASSOC, ETA, LEFT]
        told = overlaps(rules, 0, 0)
        kept = list(told)
        told.clear()
        self.assertEqual(rules, [ASSOC, ETA, LEFT])
        self.assertEqual([overlap[0] for overlap in overlaps(rules, 0, 0)], [overlap[0] for overlap in kept])
        rules[0] = LEFT
        self.assertEqual(kept[0][0], (0,))

    def test_told_again(self):
        chance = drawn(233)
        for _ in range(20):
            rules = some_book(chance)
            before = list(rules)
            told = [overlaps(rules, i, j) for i in range(len(rules)) for j in range(len(rules))]
            again = [overlaps(rules, i, j) for i in range(len(rules)) for j in range(len(rules))]
            self.assertEqual([[row[0] for row in rows] for rows in told], [[row[0] for row in rows] for rows in again])
            self.assertEqual(rules, before)


if __name__ == "__main__":
    unittest.main()
