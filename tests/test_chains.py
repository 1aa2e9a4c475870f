"""Chains of uses, and the terms that are the same by rules."""

import unittest

from shutnames.alike import told_form
from shutnames.chains import chain_lets, same
from shutnames.errors import HasHoles, NotGood, NoTerm, NoWeighing
from shutnames.uses import steps_of
from shutnames.verdicts import shows

from books import (APART, ASSOC, ETA, F, G, GOOD, H, K, LEFT, P, PULL, Q, RIGHT, TWICE, VAIN, W, some_book, some_end, some_subject)
from test_terms import NO_TERMS
from test_uses import shuts_renamed
from test_weighings import no_weighings
from things import A, B, C, FIVE, X, all_holes, drawn, hole, lead, levels, many_odd, name, shut, sign, some_term

BOOK = [VAIN, PULL, ((), H(X), X)]
ONE = G(shut("a", H(B)))


def lets_by_hand(rules, one, other, chain):
    """Whether each link goes on or back by a step that steps_of tells, from one to other."""
    ahead = one
    for way, place, number, term in chain:
        begin, end = (ahead, term) if way == "on" else (term, ahead)
        if not [step for step in steps_of(begin, rules) if step[:2] == (place, number) and levels(step[2]) == levels(end)]:
            return False
        ahead = term
    return levels(ahead) == levels(other)


class ChainLets(unittest.TestCase):
    def lets(self, one, other, chain, rules=None):
        told = chain_lets(BOOK if rules is None else rules, one, other, chain)
        self.assertIn(told, (True, False))
        self.assertIs(type(told), bool)
        return told

    def test_no_links(self):
        self.assertTrue(self.lets(A, A, []))
        self.assertTrue(self.lets(shut("a", A), shut("b", B), []))
        self.assertTrue(self.lets(shut("a", A), shut("b", B), [], []))
        self.assertFalse(self.lets(A, B, []))
        self.assertFalse(self.lets(shut("a", A), shut("b", A), []))

    def test_links_by_hand(self):
        on = ("on", (), 1, shut("a", G(H(B))))
        self.assertTrue(self.lets(ONE, shut("a", G(H(B))), [on]))
        self.assertTrue(self.lets(ONE, shut("c", G(H(B))), [on]))
        self.assertTrue(self.lets(ONE, shut("c", G(H(B))), [("on", (), 1, shut("d", G(H(B))))]))
        self.assertTrue(self.lets(shut("c", G(H(B))), ONE, [("back", (), 1, ONE)]))
        self.assertTrue(self.lets(shut("c", G(H(B))), ONE, [("back", (), 1, G(shut("q", H(B))))]))
        self.assertTrue(self.lets(ONE, ONE, [on, ("back", (), 1, ONE)]))
        self.assertTrue(self.lets(ONE, ONE, [on, ("back", (), 1, ONE), on, ("back", (), 1, ONE)]))
        self.assertTrue(self.lets(ONE, G(B), [("on", (0,), 0, G(H(B))), ("on", (0,), 2, G(B))]))
        self.assertTrue(self.lets(G(B), ONE, [("back", (0,), 2, G(H(B))), ("back", (0,), 0, ONE)]))
        self.assertTrue(self.lets(H(A), A, [("on", (), 0, A)], [((), H(X), X)]))
        self.assertFalse(self.lets(H(A), G(A), [("on", (), 0, A)], [((), H(X), X)]))
        self.assertTrue(self.lets(H(A), H(shut("b", A)), [("on", (), 2, A), ("back", (), 0, shut("b", A)), ("back", (), 2, H(shut("c", A)))]))

    def test_wrong_links(self):
        there = shut("a", G(H(B)))
        right = ("on", (), 1, there)
        self.assertTrue(self.lets(ONE, there, [right]))
        for wrong in (
            ("back", (), 1, there), ("on", (0,), 1, there), ("on", (0, 0), 1, there), ("on", (1,), 1, there), ("on", (0, 0, 0, 0), 1, there),
            ("on", (), 0, there), ("on", (), 2, there), ("on", (), 3, there), ("on", (), -2, there), ("on", (), True, there),
            ("on", (), None, there), ("on", (), "1", there), ("on", [], 1, there), ("on", None, 1, there), ("on", 0, 1, there),
            ("on", "", 1, there), ("on", (), 1, ONE), ("on", (), 1, shut("a", G(H(C)))), ("on", (), 1, shut("b", G(H(B)))),
            ("on", (), 1, shut("a", G(H(X)))), ("on", (), 1, X), ("on", (), 1, None), ("on", (), 1, "[a]g(h(b))"),
            ("on", (), 1, list(there)), ("on", (), 1), ("on", (), 1, there, there), ("on", (), 1, there, None), ("On", (), 1, there),
            ("forth", (), 1, there), ("", (), 1, there), (None, (), 1, there), (True, (), 1, there), (["on"], (), 1, there), ({}, (), 1, there),
            ["on", (), 1, there], ((), 1, there), (), None, "on", 0, {}, there,
        ):
            self.assertFalse(self.lets(ONE, there, [wrong]), wrong)
            self.assertFalse(self.lets(ONE, there, [right, wrong]), wrong)
            self.assertFalse(self.lets(ONE, there, [wrong, right]), wrong)
        term = sign("t", A, H(B))
        self.assertTrue(self.lets(term, sign("t", A, B), [("on", (1,), 2, sign("t", A, B))]))
        self.assertFalse(self.lets(term, sign("t", A, B), [("on", (True,), 2, sign("t", A, B))]))
        self.assertFalse(self.lets(sign("t", H(B)), sign("t", B), [("on", (False,), 2, sign("t", B))]))
        self.assertFalse(self.lets(H(H(A)), A, [("on", (), False, A)]))

    def test_wrong_ends(self):
        right = ("on", (), 1, shut("a", G(H(B))))
        for other in (ONE, shut("a", G(H(C))), shut("a", G(H(A))), G(H(B)), A):
            self.assertFalse(self.lets(ONE, other, [right]))
        self.assertFalse(self.lets(G(shut("a", H(C))), shut("a", G(H(B))), [right]))
        self.assertFalse(self.lets(ONE, A, []))

    def test_other_kinds(self):
        there = shut("a", G(H(B)))
        link = ("on", (), 1, there)
        for thing in ((link,), (), {}, {0: link}, None, True, "", "[]", link, ("on", [link])):
            self.assertFalse(self.lets(ONE, there, thing))
            self.assertFalse(self.lets(ONE, ONE, thing))
        for thing in many_odd():
            if thing != []:
                self.assertFalse(self.lets(ONE, ONE, thing))
            self.assertFalse(self.lets(ONE, there, [thing]))
            self.assertFalse(self.lets(ONE, there, [(thing,) + link[1:]]))
            self.assertFalse(self.lets(ONE, there, [link[:3] + (thing,)]))
            if thing != ():
                self.assertFalse(self.lets(ONE, there, [("on", thing, 1, there)]))
            if thing is True or thing != 1:
                self.assertFalse(self.lets(ONE, there, [("on", (), thing, there)]))

    def test_drawn(self):
        chance = drawn(251)
        seen = [0, 0]
        for _ in range(200):
            rules = some_book(chance)
            chain = [("on", (), 0, some_subject(chance, rules))]
            for _ in range(chance.randrange(1, 5)):
                ahead = chain[-1][3]
                steps = steps_of(ahead, rules)
                back = [link for link in chain if link[0] == "on" and levels(link[3]) == levels(ahead)][:1]
                if steps and chance.random() < 0.7:
                    place, number, term, _ = chance.choice(steps)
                    chain.append(("on", place, number, shuts_renamed(chance, term)))
                elif back and chain.index(back[0]) > 0:
                    chain.append(("back",) + back[0][1:3] + (chain[chain.index(back[0]) - 1][3],))
            one, chain = chain[0][3], chain[1:]
            other = chain[-1][3] if chain else one
            if chain and chance.random() < 0.4:
                at = chance.randrange(len(chain))
                way, place, number, term = chain[at]
                chain[at] = chance.choice([
                    ("back" if way == "on" else "on", place, number, term), (way, place[:-1], number, term), (way, place + (0,), number, term),
                    (way, place, (number + 1) % len(rules), term), (way, place, number, lead((("a", "b"), ("b", "a")), term))])
            told = self.lets(one, other, chain, rules)
            self.assertEqual(told, lets_by_hand(rules, one, other, chain), (rules, one, other, chain))
            seen[told] += bool(chain)
        self.assertGreater(min(seen), 20)

    def test_refusals(self):
        for thing in NO_TERMS + many_odd():
            for chain in ([], None):
                for one, other in [(thing, A), (A, thing), (thing, thing), (X, thing), (thing, X)]:
                    with self.assertRaises(NoTerm):
                        chain_lets(BOOK, one, other, chain)
        for holed in (X, hole("X", ("a", "b")), shut("a", X), F(A, X)):
            for one, other in [(holed, A), (A, holed), (holed, holed)]:
                for chain in ([], None, [("on", (), 0, A)]):
                    with self.assertRaises(HasHoles):
                        chain_lets(BOOK, one, other, chain)


class Same(unittest.TestCase):
    def checked(self, one, other, rules, weighing=None):
        told = same(one, other, rules, W if weighing is None else weighing)
        self.assertIs(type(told), tuple)
        if told[0] == "same":
            self.assertEqual((len(told), type(told[1])), (2, list))
            self.assertTrue(lets_by_hand(rules, one, other, told[1]), (rules, one, other, told))
            self.assertTrue(chain_lets(rules, one, other, told[1]))
            self.assertTrue(all(type(link) is tuple and all_holes(link[3]) == set() for link in told[1]))
        else:
            self.assertEqual((told[0], len(told)), ("unlike", 3))
            for end, begin in zip(told[1:], (one, other)):
                self.assertEqual(end, told_form(end))
                self.assertEqual(steps_of(end, rules), [])
                self.assertEqual(levels(end), levels(some_end(drawn(1), begin, rules)[0]))
            self.assertNotEqual(told[1], told[2])
        return told[0]

    def test_by_hand(self):
        for one, other, rules, word in [
            (A, A, [], "same"), (A, B, [], "unlike"), (shut("a", A), shut("b", B), [], "same"), (shut("a", A), shut("b", A), [], "unlike"),
            (ONE, G(B), BOOK, "same"), (G(B), ONE, BOOK, "same"), (ONE, G(A), BOOK, "unlike"), (H(A), shut("q", A), BOOK, "same"),
            (shut("a", A), A, BOOK, "unlike"), (shut("a", B), B, BOOK, "same"), (shut("a", shut("b", A)), shut("c", C), BOOK, "same"),
            (F(F(F(A, B), C), P), F(A, F(F(B, C), P)), [ASSOC], "same"), (F(F(A, B), C), F(A, F(C, B)), [ASSOC], "unlike"),
            (shut("a", F(B, A)), shut("c", F(B, C)), [ETA], "same"), (shut("a", F(B, A)), B, [ETA], "same"),
            (shut("a", F(A, A)), A, [ETA], "unlike"), (G(A), K(A, A), [TWICE], "same"), (G(A), G(B), [TWICE], "unlike"),
            (K(A, B), K(A, C), [LEFT], "same"), (K(A, B), K(C, B), [LEFT], "unlike"), (G(shut("a", B)), shut("c", G(B)), [PULL], "same"),
        ]:
            self.assertEqual(self.checked(one, other, rules), word, (one, other, rules))
            self.assertEqual(self.checked(other, one, rules), word, (other, one, rules))

    def test_ends_told(self):
        told = same(shut("q", H(F(name("q"), A))), H(shut("z", H(B))), BOOK, W)
        self.assertEqual(told, ("unlike", shut("b", F(B, A)), B))
        self.assertEqual(same(shut("d", C), C, [ETA], W), ("unlike", shut("a", C), C))

    def test_signs_beyond_the_weighing(self):
        one, other = sign("z9", H(A), sign("y", B, C)), sign("z9", A, sign("y", B, C))
        self.assertEqual(self.checked(one, other, BOOK), "same")
        self.assertEqual(self.checked(one, sign("z9", A, B), BOOK), "unlike")
        self.assertEqual(self.checked(one, one, [], {}), "same")
        self.assertEqual(self.checked(H(H(A, A)), H(A, A), [((), H(X), X)], {("h", 1): (1, (1,))}), "same")

    def test_drawn(self):
        chance = drawn(252)
        seen = {"same": 0, "unlike": 0}
        links = 0
        for at in range(200):
            rules = GOOD[at % len(GOOD)]
            one = some_subject(chance, rules)
            others = [some_subject(chance, rules), shuts_renamed(chance, one), some_end(chance, one, rules)[0]]
            for other in others:
                word = self.checked(one, other, rules)
                self.assertEqual(self.checked(other, one, rules), word)
                alike = shuts_renamed(chance, one)
                self.assertEqual(self.checked(alike, other, rules), word)
                seen[word] += 1
                if word == "same":
                    links += len(same(one, other, rules, W)[1])
            self.assertEqual([self.checked(one, other, rules) for other in others[1:]], ["same", "same"])
        self.assertGreater(min(seen.values()), 100)
        self.assertGreater(links, 300)

    def test_terms_of_other_books(self):
        chance = drawn(253)
        for _ in range(60):
            one, other = some_term(chance, 3, FIVE[:2], []), some_term(chance, 3, FIVE[:2], [])
            self.assertEqual(self.checked(one, other, [VAIN]) == "same", self.checked(other, one, [VAIN]) == "same")
            self.assertEqual(self.checked(one, other, []) == "same", levels(one) == levels(other))

    def test_refusals(self):
        bad_weighings = no_weighings()[:12] + [{}, {("h", 1): (1, (1,))}]
        for thing in NO_TERMS + many_odd():
            for one, other in [(thing, A), (A, thing), (X, thing), (thing, X)]:
                for rules, weighing in [(BOOK, W), (BOOK, None), (APART[0], W)]:
                    with self.assertRaises(NoTerm):
                        same(one, other, rules, weighing)
        for one, other in [(X, A), (A, X), (X, X), (shut("a", X), A)]:
            for rules, weighing in [(BOOK, W), (BOOK, None), (APART[0], W)]:
                with self.assertRaises(HasHoles):
                    same(one, other, rules, weighing)
        for weighing in bad_weighings:
            for rules in ([LEFT, RIGHT, PULL], BOOK, [((), P, Q)]):
                with self.assertRaises(NoWeighing):
                    same(A, A, rules, weighing)

    def test_not_good(self):
        for rules in APART + [[((), P, Q)], [VAIN, ((), K(Q, X), K(X, X))]]:
            for one, other in [(A, A), (A, B), (shut("a", A), shut("b", B))]:
                with self.assertRaises(NotGood) as caught:
                    same(one, other, rules, W)
                self.assertTrue(shows(rules, W, caught.exception.verdict), rules)
        with self.assertRaises(NotGood) as caught:
            same(A, A, [VAIN, ((), P, Q)], W)
        self.assertEqual(caught.exception.verdict, ("rises", 1, {}))

    def test_lists_changed(self):
        rules, weighing = list(BOOK), dict(W)
        told = same(ONE, G(B), rules, weighing)
        kept = list(told[1])
        told[1].clear()
        self.assertEqual((rules, weighing), (BOOK, W))
        self.assertEqual([link[:3] for link in same(ONE, G(B), rules, weighing)[1]], [link[:3] for link in kept])
        chain = list(kept)
        self.assertTrue(chain_lets(rules, ONE, G(B), chain))
        self.assertEqual(chain, kept)
        with self.assertRaises(NotGood) as caught:
            same(A, A, [LEFT, RIGHT], W)
        caught.exception.verdict[2].clear()
        with self.assertRaises(NotGood) as caught:
            same(A, A, [LEFT, RIGHT], W)
        self.assertTrue(shows([LEFT, RIGHT], W, caught.exception.verdict))


if __name__ == "__main__":
    unittest.main()
