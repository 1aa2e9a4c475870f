"""Books of rules that are mended."""

import unittest

from shutnames.bounds import MOST_RULES
from shutnames.errors import NoWeighing, NotGood, TooLong
from shutnames.facts import needs
from shutnames.fillings import filled
from shutnames.mending import mended
from shutnames.overlaps import overlaps
from shutnames.uses import ended, steps_of
from shutnames.verdicts import verdict
from shutnames.weighings import falls

from books import (APART, ASSOC, ETA, F, G, GOOD, G_TO_H, H, K, LEFT, P, PULL, Q, RIGHT, RISING, SHUT_G, SHUT_H, SHUT_H_VAIN, TWICE,
                   VAIN, W, is_closed, names_of, signs_over, some_book, some_end, some_subject)
from test_uses import alike_under
from test_weighings import no_weighings
from things import X, Y, all_holes, drawn, hole, levels, shut, sign

PAIR = "pair99"
E = sign("e")
I, J = [lambda term, f=f: sign(f, term) for f in "ij"]
V = {**W, ("i", 1): (1, (2,)), ("e", 0): (1, ()), ("j", 1): (1, (1,)), ("t", 3): (1, (1, 1, 1))}
# Books, and what comes of them: the word, and how many rules are put behind.
ENDS = [
    ([SHUT_G, G_TO_H], ("good", 1)), ([SHUT_G, SHUT_H_VAIN, G_TO_H], ("good", 1)), ([((), G(G(X)), H(X))], ("good", 1)),
    ([PULL, ((), shut("a", X), P)], ("good", 1)), ([TWICE, G_TO_H], ("good", 1)), ([((), F(F(X, Y), P), X)], ("stuck", 0)),
    ([ASSOC, ETA], ("long", 7)), ([ASSOC, ((), F(X, P), Q)], ("good", 3)), ([LEFT, RIGHT], ("stuck", 0)),
    ([((), shut("ab", X), P), ((("b", "X"),), shut("ab", X), Q)], ("good", 2)), ([VAIN, ((), shut("a", X), P)], ("stuck", 0)),
    ([((), F(E, X), X), ((), F(I(X), X), E)], ("good", 0)), ([((), F(X, I(X)), E), ((), I(I(X)), X)], ("good", 1)),
    ([((), I(J(X)), E), ((), J(I(X)), X), ((), I(I(X)), X)], ("stuck", 1)), ([((), I(I(I(X))), X), ((), I(I(I(I(I(X))))), X)], ("good", 2)),
    ([((), sign("t", X, X, Y), X), ((), sign("t", X, Y, Y), Y), ((), I(E), E)], ("good", 0)),
    ([((), I(I(X)), J(X)), ((), I(J(E)), E)], ("stuck", 1)),
]


def unlike_by_hand(rules):
    """The first overlap whose ends are unlike: both ends, and the facts; None where none has."""
    for i in range(len(rules)):
        for j in range(len(rules)):
            for _, facts, _, first, second in overlaps(rules, i, j):
                # Ended side by side, so that new names stand in neither.
                (_, _, (one, other)), told, _ = ended(sign(PAIR, first, second), rules, facts=facts, most=400)
                if not alike_under(one, other, told):
                    return one, other, told
    return None


def rules_between(one, other, facts, weighing):
    """Each closed rule that falls and leads from one end to the other."""
    found = []
    for left, right in ((one, other), (other, one)):
        rule = (tuple(fact for fact in facts if fact[1] in all_holes(left)), left, right)
        if is_closed(rule) and falls(rule, weighing)[0]:
            found.append(rule)
    return found


class Mended(unittest.TestCase):
    def checked(self, rules, weighing=None, most=7):
        """What is told, each rule put behind being the one that the words of the document lead to."""
        weighing = W if weighing is None else weighing
        try:
            told = mended(rules, weighing, most=most)
        except TooLong as long:
            self.assertEqual(long.most, most)
            return "long", most
        self.assertIs(type(told), tuple)
        book = told[1]
        self.assertEqual((type(book), book[:len(rules)]), (list, rules))
        for many in range(len(rules), len(book)):
            self.put_rightly(book[:many], book[many], weighing)
        by_hand = unlike_by_hand(book)
        if told[0] == "good":
            self.assertEqual((len(told), by_hand, verdict(book, weighing)), (2, None, ("good",)))
            self.assertEqual(mended(book, weighing, most=0), told)
        else:
            self.assertEqual((told[0], len(told)), ("stuck", 5))
            self.as_by_hand(told[2:], by_hand)
            self.assertEqual(rules_between(*by_hand, weighing), [])
            self.assertEqual(rules_between(*told[2:], weighing), [])
            self.assertFalse(alike_under(*told[2:]))
        return told[0], len(book) - len(rules)

    def as_by_hand(self, told, by_hand):
        one, other, facts = by_hand
        self.assertTrue(alike_under(sign(PAIR, *told[:2]), sign(PAIR, one, other), tuple(sorted({*facts, *told[2]}))), (told, by_hand))

    def put_rightly(self, book, rule, weighing):
        (by_hand,) = rules_between(*unlike_by_hand(book), weighing)
        self.assertTrue(is_closed(rule) and falls(rule, weighing)[0], rule)
        self.assertTrue(alike_under(sign(PAIR, *rule[1:]), sign(PAIR, *by_hand[1:]), tuple(sorted({*rule[0], *by_hand[0]}))), (rule, by_hand))
        for one, other in ((rule, by_hand), (by_hand, rule)):
            self.leads_as(one, other)
        self.is_new(book, rule)

    def leads_as(self, rule, other):
        """The other rule leads from the left side to the right one, filled with signs over all names not barred."""
        filling = signs_over(rule[1], names_of(rule) | names_of(other), rule[0])
        steps = steps_of(filled(rule[1], filling), [other])
        self.assertEqual([step[:2] for step in steps[:1]], [((), 0)])
        self.assertEqual(levels(steps[0][2]), levels(filled(rule[2], filling)))

    def is_new(self, book, rule):
        """By the rules so far none of both sides, filled with signs, leads on."""
        filling = signs_over(rule[1], names_of(rule), rule[0])
        left, right = [levels(filled(side, filling)) for side in rule[1:]]
        self.assertNotEqual(left, right)
        self.assertEqual(steps_of(filled(rule[1], filling), book), [])
        self.assertEqual(steps_of(filled(rule[2], filling), book), [])

    def test_good_books(self):
        for rules in GOOD:
            for most in (0, 1, 6):
                self.assertEqual(mended(rules, W, most=most), ("good", rules))
            self.assertEqual(mended(rules, W), ("good", rules))
        self.assertEqual(mended([], {}), ("good", []))

    def test_one_rule(self):
        told = mended([SHUT_G, G_TO_H], W)
        self.assertEqual((told[0], len(told[1])), ("good", 3))
        facts, left, right = told[1][2]
        self.assertTrue(alike_under(left, shut("a", H(hole(*all_holes(left)))), facts))
        self.assertEqual(right, P)
        told = mended([PULL, ((), shut("a", X), P)], W)
        self.assertEqual((told[0], [rule[1:] for rule in told[1][2:]]), ("good", [(G(P), P)]))
        told = mended([SHUT_G, SHUT_H_VAIN, G_TO_H], W)
        self.assertEqual((told[0], len(told[1])), ("good", 4))
        self.assertFalse({a for a, _ in told[1][3][0]} & {told[1][3][1][1]})

    def test_facts_of_the_rule(self):
        # The shut name is barred from the one hole, and not from the other one.
        rules = [((("a", "X"),), shut("a", K(G(X), Y)), P), G_TO_H]
        told = mended(rules, W)
        self.assertEqual((told[0], len(told[1])), ("good", 3))
        facts, left, right = told[1][2]
        self.assertEqual((left[0], left[2][:2], right), ("shut", ("sign", "k"), P))
        x, y = left[2][2][0][2][0][2], left[2][2][1][2]
        self.assertIn((left[1], x), facts)
        self.assertNotIn((left[1], y), facts)

    def test_which_way(self):
        # The heavier end is the left side, be it of the first or of the second term.
        for rules in ([((), G(X), H(X)), ((), G(X), P)], [((), G(X), P), ((), G(X), H(X))]):
            told = mended(rules, W)
            self.assertEqual(told[0], "good")
            self.assertEqual([(rule[1][:2], rule[2]) for rule in told[1][2:]], [(("sign", "h"), P)])

    def test_two_and_three(self):
        told = mended([((), I(I(I(X))), X), ((), I(I(I(I(I(X))))), X)], V)
        self.assertEqual([sign("r", *rule[1:])[2] for rule in told[1][2:]],
                         [(I(I(one)), one) if at == 0 else (I(one), one) for at, one in enumerate([rule[2] for rule in told[1][2:]])])
        told = mended([ASSOC, ((), F(X, P), Q)], W)
        self.assertEqual([(rule[1][2][1], rule[2]) for rule in told[1][2:3]], [(Q, Q)])

    def test_books_by_hand(self):
        for rules, wanted in ENDS:
            self.assertEqual(self.checked(rules, V), wanted, rules)
        for rules in APART:
            self.checked(rules)

    def test_drawn(self):
        chance = drawn(271)
        seen = {}
        for _ in range(250):
            rules = some_book(chance)
            word = self.checked(rules)
            seen[word] = seen.get(word, 0) + 1
            if word[0] == "good":
                self.the_same_terms(chance, rules, mended(rules, W, most=7)[1])
        self.assertGreater(seen[("good", 1)], 20)
        self.assertGreater(seen[("good", 2)], 2)
        self.assertGreater(seen[("stuck", 0)], 5)

    def the_same_terms(self, chance, rules, book):
        """What the old rules lead to has one end by the new ones."""
        for _ in range(3):
            term = some_subject(chance, rules)
            ends = [some_end(chance, term, rules)[0] for _ in range(2)]
            ends = [levels(some_end(chance, end, book)[0]) for end in ends + [term]]
            self.assertEqual((ends[0], ends[1]), (ends[1], ends[2]))


class Bounds(unittest.TestCase):
    def wanting(self):
        """Books that can be mended, with the number of rules that they want."""
        chance = drawn(272)
        found = {}
        while not {1, 2, 3} <= set(found):
            rules = some_book(chance)
            try:
                told = mended(rules, W, most=5)
            except TooLong:
                continue
            if told[0] == "good":
                found.setdefault(len(told[1]) - len(rules), rules)
        return found

    def test_good_just_from_the_number_wanted_on(self):
        for many, rules in self.wanting().items():
            for most in range(8):
                if most >= many:
                    told = mended(rules, W, most=most)
                    self.assertEqual((told[0], len(told[1])), ("good", len(rules) + many))
                else:
                    with self.assertRaises(TooLong) as caught:
                        mended(rules, W, most=most)
                    self.assertEqual(caught.exception.most, most)

    def test_stuck_at_any_bound_that_lets_it_come(self):
        chance = drawn(273)
        seen = set()
        while not {0, 1} <= seen:
            rules = some_book(chance)
            try:
                told = mended(rules, W, most=4)
            except TooLong:
                continue
            if told[0] == "stuck":
                many = len(told[1]) - len(rules)
                seen.add(many)
                for most in range(6):
                    if most >= many:
                        self.assertEqual(mended(rules, W, most=most)[0], "stuck")
                    else:
                        with self.assertRaises(TooLong) as caught:
                            mended(rules, W, most=most)
                        self.assertEqual(caught.exception.most, most)

    def test_stuck_by_hand(self):
        told = mended([LEFT, RIGHT], W, most=0)
        self.assertEqual((told[0], told[1]), ("stuck", [LEFT, RIGHT]))
        self.assertEqual([term[0] for term in told[2:4]], ["hole", "hole"])
        self.assertIsNone(needs(("alike", told[2], told[3])))
        # Neither end of these weighs more, or they aren't closed: a free name in the one, barred in no hole.
        level = {**W, ("g", 1): (4, (1,)), ("h", 1): (2, (1,)), ("r", 1): (2, (1,))}
        rules = [((), G(X), H(X)), ((), G(X), sign("r", X))]
        told = mended(rules, level, most=0)
        self.assertEqual((told[0], told[1], told[4]), ("stuck", rules, ()))
        self.assertEqual({told[2][1], told[3][1]}, {"h", "r"})
        rules = [((), K(G(X), Y), X), ((), G(X), P)]
        self.assertEqual(mended(rules, W, most=0)[0], "stuck")
        self.assertEqual(mended([((), G(K(X, Y)), X), ((), G(K(X, Y)), Y)], W)[0], "stuck")

    def test_bound_left_out(self):
        self.assertEqual(MOST_RULES, 6)
        heavy = {("g", 1): (1, (2,)), ("p", 0): (1, ()), **{("s" + str(at), 0): (40 - at, ()) for at in range(10)}}
        signs = [sign("s" + str(at)) for at in range(10)]
        for many in (5, 6, 7):
            # Each of these leads g(s0) elsewhere: so each next one wants a rule of its own.
            rules = [((), G(signs[0]), end) for end in signs[1:many + 2]]
            if many <= 6:
                self.assertEqual(mended(rules, heavy)[0], "good")
                self.assertEqual(len(mended(rules, heavy)[1]), len(rules) + many)
            else:
                with self.assertRaises(TooLong) as caught:
                    mended(rules, heavy)
                self.assertEqual(caught.exception.most, 6)
            self.assertEqual(len(mended(rules, heavy, most=many)[1]), len(rules) + many)


class Refusals(unittest.TestCase):
    def test_no_weighing(self):
        for weighing in no_weighings():
            for rules in ([LEFT], [], [((), P, Q)], [LEFT, RIGHT]):
                with self.assertRaises(NoWeighing):
                    mended(rules, weighing)
        for rules in ([((), P, Q), ((), sign("z"), P)], [((), P, Q), ((), P, sign("z"))], [((), P, sign("z"))]):
            with self.assertRaises(NoWeighing):
                mended(rules, W, most=0)

    def test_not_good(self):
        for rule in RISING:
            for rules in ([rule], [LEFT, RIGHT, rule], [VAIN, rule, ((), P, Q)]):
                for most in (0, 6):
                    with self.assertRaises(NotGood) as caught:
                        mended(rules, W, most=most)
                    self.assertEqual(caught.exception.verdict, verdict(rules, W))
                    self.assertEqual(caught.exception.verdict[:2], ("rises", rules.index(rule)))

    def test_lists_changed(self):
        for rules in ([SHUT_G, G_TO_H], [LEFT, RIGHT], [VAIN], [SHUT_G, SHUT_H, G_TO_H]):
            before, weighing = list(rules), dict(W)
            told = mended(rules, weighing)
            kept = list(told[1])
            self.assertEqual((rules, weighing), (before, W))
            told[1].append(None)
            told[1][0] = None
            self.assertEqual(rules, before)
            self.assertEqual(len(mended(rules, weighing)[1]), len(kept))
            self.assertIsNot(mended(rules, weighing)[1], rules)


if __name__ == "__main__":
    unittest.main()
