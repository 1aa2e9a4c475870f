"""Rules used on terms, and the ends to which they lead."""

import unittest

from shutnames.bounds import MOST_USES
from shutnames.errors import NoFacts, NoTerm, TooLong
from shutnames.facts import needs
from shutnames.fillings import filled
from shutnames.patterns import matched
from shutnames.renewing import made_new
from shutnames.rules import look_rule
from shutnames.terms import holes_in, names_in, part_at, put_at, turned_term
from shutnames.uses import ended, steps_of

from test_fillings import NO_FACTS, odd_but
from test_rules import CLOSED
from test_terms import NO_TERMS
from things import (A, B, C, D, FIVE, ROW, THREE, X, Y, all_holes, all_names, all_parts, drawn, hole, inner, lead, levels,
                    many_odd, name, shut, sign, some_facts, some_term, some_turn)

P, Q, T = hole("P"), hole("Q"), hole("T")
AX = (("a", "X"),)
# What is put in the place of a shut name, told by signs: sub([a]t, u).
SUB = [
    ((), sign("sub", shut("a", A), X), X),
    (AX, sign("sub", shut("a", X), Y), X),
    ((), sign("sub", shut("a", sign("f", X, T)), Y), sign("f", sign("sub", shut("a", X), Y), sign("sub", shut("a", T), Y))),
    ((("b", "Y"),), sign("sub", shut("ab", X), Y), shut("b", sign("sub", shut("a", X), Y))),
]
ETA = ((("a", "X"),), shut("a", sign("f", X, A)), X)
SWAP = ((), shut("ab", sign("g", X)), shut("ba", sign("h", X)))
TURNED = ((("a", "X"), ("b", "X")), sign("g", hole("X", ("a", "b"))), sign("h", X))
SAME_TURN = ((), sign("g", hole("X", ("a", "b"))), sign("h", hole("X", ("a", "b"))))
BRING = (AX, sign("p", X), shut("a", sign("h", X, A)))
DUST = ((), sign("p"), shut("aab", sign("q", B)))
BOOKS = [SUB, [ETA], [SWAP, ETA], [TURNED, SAME_TURN, BRING], [BRING, DUST, ETA], [((), sign("f", X, X), X), ETA]]


def renamed(part, names, holes):
    """The part with names and holes exchanged by two dicts, by recursion."""
    kind = part[0]
    if kind == "name":
        return ("name", names[part[1]])
    if kind == "hole":
        return ("hole", tuple(sorted((names[a], names[b]) for a, b in part[1])), holes[part[2]])
    if kind == "shut":
        return ("shut", names[part[1]], renamed(part[2], names, holes))
    return ("sign", part[1], tuple(renamed(one, names, holes) for one in part[2]))


def names_of(rule):
    return all_names(rule[1]) | all_names(rule[2]) | {a for a, _ in rule[0]}


def used(term, place, rule, facts):
    """The term and the facts to which the rule leads at the place, by the words of the document; None where to none."""
    old = sorted(names_of(rule))
    taken = all_names(term) | {a for a, _ in facts} | set(old)
    new = [a for a in ROW if a not in taken][:len(old)]
    old_holes = sorted(all_holes(rule[1]))
    names, holes = dict(zip(old, new)), {x: "NEW" + str(at) for at, x in enumerate(old_holes)}
    left, right = renamed(rule[1], names, holes), renamed(rule[2], names, holes)
    asked = tuple(sorted((names[a], holes[x]) for a, x in rule[0]))
    known = tuple(sorted({*facts, *[(a, y) for a in new for y in all_holes(term)]}))
    filling = matched(left, part_at(term, place), facts=known, asked=asked)
    if filling is None:
        return None
    told = put_at(term, place, filled(right, filling))
    staying = [a for a in new if a in all_names(told)]
    return told, tuple(sorted({*facts, *[(a, y) for a in staying for y in all_holes(told)]})), new


def steps_by_hand(term, rules, facts=()):
    """All that is led to, rising by places and by rules' numbers."""
    found = []
    for place, _ in sorted(all_parts(term), key=lambda row: row[0]):
        for number, rule in enumerate(rules):
            there = used(term, place, rule, facts)
            if there is not None:
                found.append((place, number) + there)
    return found


def alike_under(one, other, facts):
    needed = needs(("alike", one, other))
    return needed is not None and set(needed) <= set(facts)


def bring_together(chance, rules, plain):
    """A term in which some left sides stand, filled somehow."""
    holes = [] if plain else ["P", "Q"]
    term = some_term(chance, 3, THREE, holes)
    for _ in range(chance.randrange(1, 3)):
        _, left, _ = chance.choice(rules)
        names = sorted(all_names(left))
        turn = dict(zip(names, chance.sample(FIVE, len(names))))
        part = renamed(left, turn, {x: x for x in all_holes(left)})
        part = filled(part, tuple((x, some_term(chance, 2, THREE, holes)) for x in sorted(all_holes(left))))
        if chance.random() < 0.5:
            term = put_at(term, chance.choice([place for place, _ in all_parts(term)]), part)
        else:
            term = shut(chance.choice(["a", "b", ""]), sign("k", part, term))
    return term


class Steps(unittest.TestCase):
    def checked(self, term, rules, facts=()):
        """What is told is alike to what the words of the document lead to, at the same places and by the same rules."""
        told, wanted = steps_of(term, rules, facts=facts), steps_by_hand(term, rules, facts)
        self.assertIs(type(told), list)
        self.assertEqual([step[:2] for step in told], [step[:2] for step in wanted], (term, rules, facts))
        self.assertEqual([step[:2] for step in told], sorted(set([step[:2] for step in told])))
        for (_, _, term_told, facts_told), (_, _, by_hand, facts_by_hand, new) in zip(told, wanted):
            self.assertTrue(alike_under(term_told, by_hand, facts_told), (term, term_told, by_hand))
            self.assertTrue(alike_under(term_told, by_hand, facts_by_hand))
            staying = [a for a in new if a in all_names(term_told)]
            self.assertEqual(facts_told, tuple(sorted({*facts, *[(a, y) for a in staying for y in all_holes(term_told)]})))
        return told

    def test_rules_are_closed(self):
        for rule in [rule for book in BOOKS for rule in book]:
            self.assertIsNone(look_rule(rule))

    def test_by_hand(self):
        for term, rules, wanted in [
            (A, SUB, []), (sign("sub", A, B), SUB, []), (sign("f"), [], []), (shut("a", sign("f", A, A)), [ETA], []),
            (sign("sub", shut("c", name("c")), B), SUB, [((), 0, B)]), (sign("sub", shut("c", A), B), SUB, [((), 1, A)]),
            (shut("b", sign("f", A, B)), [ETA], [((), 0, A)]), (shut("b", sign("f", B, B)), [ETA], []),
            (shut("c", shut("b", sign("f", C, B))), [ETA], [((0,), 0, shut("c", C))]),
            (sign("k", shut("b", sign("f", A, B)), C, shut("a", sign("f", C, A))), [ETA],
             [((0,), 0, sign("k", A, C, shut("a", sign("f", C, A)))), ((2,), 0, sign("k", shut("b", sign("f", A, B)), C, C))]),
            (sign("sub", shut("a", shut("b", B)), D), SUB,
             [((), 1, shut("a", A)), ((), 3, shut("c", sign("sub", shut("a", C), D)))]),
            (sign("sub", shut("a", sign("f", A, B)), B), SUB,
             [((), 2, sign("f", sign("sub", shut("a", A), B), sign("sub", shut("a", B), B)))]),
        ]:
            told = self.checked(term, rules)
            self.assertEqual([(place, number, levels(there), facts) for place, number, there, facts in told],
                             [(place, number, levels(there), ()) for place, number, there in wanted], (term, rules))

    def test_no_name_gets_shut(self):
        # The shut b of the term must not shut the free b that is put below it.
        told = self.checked(sign("sub", shut("ab", sign("f", A, B)), B), SUB)
        self.assertEqual([step[:2] for step in told], [((), 3)])
        self.assertEqual(levels(told[0][2]), levels(shut("c", sign("sub", shut("a", sign("f", A, C)), B))))

    def test_names_of_the_rule_in_the_term(self):
        for a, b in [("a", "b"), ("b", "a"), ("c", "d"), ("a", "c"), ("c", "a")]:
            term = shut(a, shut(b, sign("g", sign("k", name(a), name(b), name("z")))))
            told = self.checked(term, [SWAP])
            self.assertEqual([(step[0], levels(step[2])) for step in told],
                             [((), levels(shut(b, shut(a, sign("h", sign("k", name(a), name(b), name("z"))))))),])

    def test_holes_under_turns(self):
        self.assertEqual(self.checked(sign("g", sign("k", A, B)), [TURNED]), [((), 0, sign("h", sign("k", A, B)), ())])
        self.assertEqual(self.checked(sign("g", sign("k", A, B)), [SAME_TURN]), [((), 0, sign("h", sign("k", A, B)), ())])
        for term in (sign("g", P), sign("g", hole("P", ("a", "b"))), shut("a", sign("g", hole("P", ("a", "c"))))):
            for rule in (TURNED, SAME_TURN):
                self.assertEqual(len(self.checked(term, [rule])), 1)
                self.assertEqual(len(self.checked(term, [rule], (("a", "P"), ("c", "P")))), 1)

    def test_shuts_above(self):
        term = shut("ab", sign("k", shut("c", sign("f", sign("k", A, B), C)), shut("a", sign("f", B, A))))
        told = self.checked(term, [ETA])
        self.assertEqual([step[0] for step in told], [(0, 0, 0), (0, 0, 1)])
        self.assertEqual(levels(told[0][2]), levels(shut("ab", sign("k", sign("k", A, B), shut("a", sign("f", B, A))))))
        self.assertEqual(levels(told[1][2]), levels(shut("ab", sign("k", shut("c", sign("f", sign("k", A, B), C)), B))))

    def test_all_places_and_rules_rise(self):
        part = sign("p", sign("p", A))
        term = sign("k", part, shut("a", part), sign("p"))
        books = [BRING, ((), sign("p", sign("p", X)), X), DUST, BRING]
        self.assertEqual([step[:2] for step in self.checked(term, books)], [
            ((0,), 0), ((0,), 1), ((0,), 3), ((0, 0), 0), ((0, 0), 3), ((1, 0), 0), ((1, 0), 1), ((1, 0), 3), ((1, 0, 0), 0),
            ((1, 0, 0), 3), ((2,), 2)])

    def test_terms_with_holes(self):
        term = shut("b", sign("f", P, B))
        self.assertEqual(self.checked(term, [ETA]), [])
        self.assertEqual(self.checked(term, [ETA], (("a", "P"),)), [])
        told = self.checked(term, [ETA], (("b", "P"),))
        self.assertEqual([step[:2] for step in told], [((), 0)])
        self.assertTrue(alike_under(told[0][2], P, told[0][3]))
        self.assertEqual(self.checked(sign("sub", shut("a", sign("k", P)), Q), SUB), [])
        told = self.checked(sign("sub", shut("a", sign("k", P)), Q), SUB, (("a", "P"),))
        self.assertEqual([step[:2] for step in told], [((), 1)])
        told = self.checked(sign("sub", shut("ab", P), Q), SUB)
        self.assertEqual([step[:2] for step in told], [((), 3)])
        self.assertEqual(sorted({y for _, y in told[0][3]}), ["P", "Q"])

    def test_told_facts(self):
        handed = (("a", "P"), ("q", "W"))
        told = self.checked(sign("p", sign("k", P, Q)), [BRING], handed)[0]
        new = [a for a in names_in(told[2])]
        self.assertEqual(new, ["b"])
        self.assertEqual(told[3], (("a", "P"), ("b", "P"), ("b", "Q"), ("q", "W")))
        self.assertEqual(self.checked(sign("p", A), [BRING], handed)[0][3], handed)
        # The shut of the new name goes, and of it no fact is told.
        self.assertEqual(self.checked(shut("c", sign("f", C, C)), [ETA], handed), [])
        self.assertEqual(self.checked(shut("c", sign("f", D, C)), [ETA], handed)[0][3], handed)
        self.assertEqual(self.checked(sign("p", P), [((), sign("p", X), sign("q"))])[0], ((), 0, sign("q"), ()))

    def test_two_rules_have_new_holes_of_their_own(self):
        term = sign("f", X, hole("X"))
        rules = [((), sign("f", X, X), sign("g", X)), ((), sign("f", hole("A"), hole("B")), sign("h", hole("B"), hole("A")))]
        self.assertEqual(self.checked(term, rules), [((), 0, sign("g", X), ()), ((), 1, sign("h", X, X), ())])
        term = sign("f", hole("A"), hole("B"))
        self.assertEqual(self.checked(term, rules), [((), 1, sign("h", hole("B"), hole("A")), ())])

    def test_new_names_beyond_the_first_of_the_row(self):
        # All letters but y and z are taken: so the new names are y, z, a1, which don't rise as texts.
        letters = sign("k", *[sign("k", *[name(a) for a in ROW[at:at + 6]]) for at in (0, 6, 12, 18)])
        rule = ((("a", "X"), ("b", "X"), ("c", "X")), sign("g", hole("X", ("a", "c"))), shut("abc", sign("h", X, A, B, C)))
        self.assertIsNone(look_rule(rule))
        for term in (sign("g", letters), sign("g", sign("m", letters, P)), sign("g", P, letters)):
            self.checked(term, [rule])
            self.checked(term, [rule], (("y", "P"),))
        new_rule, new_names = made_new(rule, {a: True for a in ROW[:24]}, ["A"])
        self.assertEqual(new_names, ["y", "z", "a1"])
        self.assertIsNone(look_rule(new_rule))
        self.assertEqual(new_rule, (
            (("a1", "B"), ("y", "B"), ("z", "B")), sign("g", hole("B", ("y", "a1"))),
            shut(["y", "z", "a1"], sign("h", hole("B"), name("y"), name("z"), name("a1")))))

    def test_drawn_plain(self):
        chance = drawn(101)
        seen = 0
        for _ in range(250):
            rules = chance.choice(BOOKS)
            term = bring_together(chance, rules, True)
            told = self.checked(term, rules)
            seen += len(told)
            self.assertEqual([step[3] for step in told], [()] * len(told))
        self.assertGreater(seen, 300)

    def test_drawn_with_holes(self):
        chance = drawn(102)
        seen = 0
        for _ in range(250):
            rules = chance.choice(BOOKS)
            seen += len(self.checked(bring_together(chance, rules, False), rules, some_facts(chance, THREE, ["P", "Q"])))
        self.assertGreater(seen, 150)

    def test_closed_rules_on_their_left_sides(self):
        for rule in CLOSED:
            holes = sorted(all_holes(rule[1]))
            terms = tuple((x, sign("k", name("n" + str(at)))) for at, x in enumerate(holes))
            steps = self.checked(filled(rule[1], terms), [rule])
            self.assertEqual(steps[0][:2], ((), 0))
            self.assertEqual(levels(steps[0][2]), levels(filled(rule[2], terms)), rule)

    def test_whatever_names(self):
        chance = drawn(103)
        seen = 0
        for _ in range(150):
            rules = chance.choice(BOOKS)
            term, turn = bring_together(chance, rules, True), some_turn(chance, FIVE)
            told, turned = steps_of(term, rules), steps_of(turned_term(turn, term), rules)
            self.assertEqual([(step[:2], levels(lead(turn, step[2]))) for step in told],
                             [(step[:2], levels(step[2])) for step in turned])
            alike = shuts_renamed(chance, term)
            self.assertEqual(levels(alike), levels(term))
            self.assertEqual([(step[:2], levels(step[2])) for step in told],
                             [(step[:2], levels(step[2])) for step in steps_of(alike, rules)])
            seen += len(told)
        self.assertGreater(seen, 150)


def shuts_renamed(chance, term):
    """A term alike to this plain one, with other names shut."""
    if term[0] == "shut":
        inside = shuts_renamed(chance, term[2])
        fresh = chance.choice([a for a in FIVE + ["x", "y"] if a == term[1] or a not in all_names(inside)])
        turn = tuple(sorted([(fresh, term[1]), (term[1], fresh)])) if fresh != term[1] else ()
        return ("shut", fresh, lead(turn, inside))
    if term[0] == "sign":
        return ("sign", term[1], tuple(shuts_renamed(chance, part) for part in inner(term)))
    return term


class Ended(unittest.TestCase):
    def checked(self, term, rules, facts=(), most=MOST_USES):
        """Each use is the first step at the term and the facts that the use ahead told; none is left at the end."""
        told = ended(term, rules, facts=facts, most=most)
        self.assertEqual((type(told), type(told[2])), (tuple, list))
        here, known = term, facts
        for use in told[2]:
            steps = steps_of(here, rules, facts=known)
            self.assertEqual(steps[0][:2], use)
            here, known = steps[0][2:]
        self.assertEqual(steps_of(here, rules, facts=known), [])
        self.assertTrue(alike_under(here, told[0], told[1]))
        self.assertEqual(known, told[1])
        return told

    def test_by_hand(self):
        self.assertEqual(self.checked(A, SUB), (A, (), []))
        self.assertEqual(self.checked(sign("sub", A, B), SUB), (sign("sub", A, B), (), []))
        self.assertEqual(self.checked(X, [], (("a", "X"),)), (X, (("a", "X"),), []))
        term = sign("sub", shut("a", sign("f", A, shut("b", sign("f", B, A)))), sign("f", B, C))
        told = self.checked(term, SUB)
        self.assertEqual(levels(told[0]), levels(sign("f", sign("f", B, C), shut("d", sign("f", D, sign("f", B, C))))))
        self.assertEqual((told[1], told[2]), ((), [
            ((), 2), ((0,), 0), ((1,), 3), ((1, 0), 2), ((1, 0, 0), 1), ((1, 0, 1), 0)]))

    def test_the_first_use_each_time(self):
        part = shut("b", sign("f", C, B))
        self.assertEqual(self.checked(sign("k", part, shut("a", part), A), [ETA])[2], [((0,), 0), ((1, 0), 0)])
        # Outside ahead of inside, and of two rules at one place the one with the lesser number.
        whole = sign("p", sign("p", A))
        self.assertEqual(self.checked(whole, [((), sign("p", X), X)])[2], [((), 0), ((), 0)])
        both = [((), sign("p", X), sign("q", X)), ((), sign("p", X), sign("r", X))]
        self.assertEqual(self.checked(whole, both), (sign("q", sign("q", A)), (), [((), 0), ((0,), 0)]))
        self.assertEqual(self.checked(whole, both[::-1]), (sign("r", sign("r", A)), (), [((), 0), ((0,), 0)]))

    def test_with_holes_and_facts(self):
        term = sign("sub", shut("a", sign("f", A, shut("b", sign("f", B, P)))), Q)
        told = self.checked(term, SUB)
        self.assertGreater(len(told[2]), 3)
        told = self.checked(term, SUB, (("a", "P"), ("b", "Q")))
        self.assertTrue(alike_under(told[0], sign("f", Q, shut("b", sign("f", B, P))), told[1]))
        self.assertTrue({("a", "P"), ("b", "Q")} <= set(told[1]))

    def test_bound(self):
        rules = [((), sign("s", X), X)]
        term = A
        for many in range(6):
            for most in range(many, 8):
                self.assertEqual(ended(term, rules, most=most), (A, (), [((), 0)] * many))
            for most in range(many):
                with self.assertRaises(TooLong) as caught:
                    ended(term, rules, most=most)
                self.assertEqual(caught.exception.most, most)
            term = sign("s", term)

    def test_most_uses(self):
        rules = [((), sign("s", X), X)]
        term = A
        for _ in range(MOST_USES):
            term = sign("s", term)
        self.assertEqual(ended(term, rules), (A, (), [((), 0)] * 200))
        with self.assertRaises(TooLong) as caught:
            ended(sign("s", term), rules)
        self.assertEqual(caught.exception.most, 200)
        self.assertEqual(len(ended(sign("s", term), rules, most=201)[2]), 201)

    def test_rules_that_never_end(self):
        for rules, term in [([((), sign("p"), sign("p"))], sign("p")), ([((), sign("q", X), sign("q", X))], sign("k", sign("q", P))),
                            ([SWAP, ((), shut("ab", sign("h", X)), shut("ba", sign("g", X)))], shut("ab", sign("g", A)))]:
            for most in (0, 1, 3, 40):
                with self.assertRaises(TooLong) as caught:
                    ended(term, rules, most=most)
                self.assertEqual(caught.exception.most, most)
            with self.assertRaises(TooLong) as caught:
                ended(term, rules)
            self.assertEqual(caught.exception.most, MOST_USES)

    def test_turns_stay_short(self):
        back = ((), shut("ab", sign("h", X)), shut("ba", sign("g", X)))
        term = shut("ab", sign("g", sign("k", P, hole("Q", ("a", "c")))))
        here, facts = term, ()
        for _ in range(60):
            (place, _, here, facts), = steps_of(here, [SWAP, back], facts=facts)
            self.assertLess(len(names_in(here)), 12)
        for known in (facts, facts + (("z", "P"),)):
            self.assertTrue(alike_under(here, term, known))

    def test_drawn(self):
        chance = drawn(104)
        seen = 0
        for at in range(300):
            rules = chance.choice(BOOKS)
            told = self.checked(bring_together(chance, rules, at % 2 == 0), rules, some_facts(chance, THREE, ["P", "Q"])[:3])
            seen += len(told[2])
        self.assertGreater(seen, 300)


class Refusals(unittest.TestCase):
    def test_no_term(self):
        for thing in NO_TERMS + many_odd():
            for facts in ((), None, []):
                for call in (lambda: steps_of(thing, SUB, facts=facts), lambda: ended(thing, SUB, facts=facts, most=0),
                             lambda: steps_of(thing, []), lambda: ended(thing, [])):
                    with self.assertRaises(NoTerm):
                        call()

    def test_no_facts(self):
        for thing in NO_FACTS + odd_but(()):
            for call in (lambda: steps_of(A, SUB, facts=thing), lambda: ended(A, SUB, facts=thing),
                         lambda: ended(sign("p"), [DUST], facts=thing, most=0)):
                with self.assertRaises(NoFacts):
                    call()


class ToldThings(unittest.TestCase):
    def test_lists_changed(self):
        term, rules = sign("sub", shut("a", sign("f", A, B)), C), list(SUB)
        steps, end = steps_of(term, rules), ended(term, rules)
        kept_steps, kept_uses = list(steps), list(end[2])
        steps.clear()
        end[2][0] = None
        end[2].append(None)
        self.assertEqual(rules, SUB)
        self.assertEqual(steps_of(term, rules), kept_steps)
        self.assertEqual(ended(term, rules), (end[0], end[1], kept_uses))
        self.assertEqual(holes_in(end[0]), [])


if __name__ == "__main__":
    unittest.main()
