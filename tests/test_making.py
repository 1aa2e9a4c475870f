"""Steps, the standings behind them, and asks met or shown to be never met."""

import itertools
import unittest

from shutnames.errors import BadStep, NoAsk, NoFacts
from shutnames.facts import needs
from shutnames.fillings import then_filling
from shutnames.making import lets, made, walked
from shutnames.terms import parts_of, put_at

from test_facts import NO_ASKS, holes_asked, some_ask
from test_fillings import NO_FACTS, odd_but
from things import (A, B, C, D, THREE, X, Y, Z, all_holes, drawn, fill, hole, inner, kept, lead, led, levels, many_odd, met,
                    plain_fillings, plain_terms, shut, sign, some_facts)

AB = hole("X", ("a", "b"))
BAD_STEPS = [(), (0,), (0, 0, 0), [0, 0], (True, 0), (False, 0), (0, True), (0, False), (-1, 0), (0, -1), (0, 2), (1, 0),
             (10 ** 20, 0), (0, 10 ** 20), ("0", 0), (0, "0"), (None, 0), (0, None), ((0,), 0), ([0], 0), ({}, []), "00", "", None,
             True, 0, {0: 0}, {}]


# Steps by the words of the document.

def alike_done(one, other):
    """The asks that come of two terms on side 0 where no hole is filled, or None."""
    if one[0] == "name" and one == other:
        return []
    if one[0] == other[0] == "sign" and one[1] == other[1] and len(one[2]) == len(other[2]):
        return [("alike", one[2][at], other[2][at]) for at in range(len(one[2]))]
    if one[0] == other[0] == "shut":
        (_, a, t), (_, b, u) = one, other
        if a == b:
            return [("alike", t, u)]
        return [("alike", t, lead(tuple(sorted([(a, b), (b, a)])), u)), ("fresh", a, u)]
    if one[0] == other[0] == "hole" and one[2] == other[2]:
        names = sorted({a for turn in (one[1], other[1]) for a, _ in turn})
        return [("fresh", a, ("hole", (), one[2])) for a in names if led(one[1], a) != led(other[1], a)]
    return None


def fresh_done(a, t):
    """The asks that come of a name and a term that is no hole, or None."""
    if t[0] == "name":
        return None if t[1] == a else []
    if t[0] == "shut" and t[1] == a:
        return []
    return [("fresh", a, part) for part in inner(t)]


def ask_filled(ask, filling):
    return (ask[0],) + tuple(fill(part, filling) if isinstance(part, tuple) else part for part in ask[1:])


def with_hole_filled(rest, facts, filling, one, other):
    """The standing with the hole of the one filled with the other."""
    x, term = one[2], lead(tuple(sorted([(to, a) for a, to in one[1]])), other)
    asks = [ask_filled(ask, ((x, term),)) for ask in rest] + [("fresh", a, term) for a, y in facts if y == x]
    told = [(y, fill(t, ((x, term),))) for y, t in filling] + [(x, term)]
    return asks, tuple(fact for fact in facts if fact[1] != x), tuple(sorted(told))


def done(standing, step):
    """The standing behind the step; None where it can't be done."""
    asks, facts, filling = standing
    if type(step) is not tuple or len(step) != 2 or type(step[0]) is not int or type(step[1]) is not int:
        return None
    at, side = step
    if not (0 <= at < len(asks) and side in (0, 1)):
        return None
    (kind, one, other), rest = asks[at], asks[:at] + asks[at + 1:]
    if kind == "fresh":
        if side == 1:
            return None
        if other[0] == "hole":
            fact = ([n for n in THREE + list("dexyz") + [one] if led(other[1], n) == one][0], other[2])
            return rest, tuple(sorted({*facts, fact})), filling
        comes = fresh_done(one, other)
        return None if comes is None else (rest + comes, facts, filling)
    if side == 0 and alike_done(one, other) is not None:
        return rest + alike_done(one, other), facts, filling
    one, other = (one, other) if side == 0 else (other, one)
    if one[0] == "hole" and one[2] not in all_holes(other):
        return with_hole_filled(rest, facts, filling, one, other)
    return None


def begun(asks, facts=()):
    return list(asks) + [("fresh", a, ("hole", (), x)) for a, x in facts], (), ()


def done_all(asks, steps, facts=()):
    """The standing behind all steps; None where one can't be done."""
    standing = begun(asks, facts)
    for step in steps:
        standing = done(standing, step)
        if standing is None:
            return None
    return standing


def possible(standing):
    """All steps that can be done."""
    return [(at, side) for at in range(len(standing[0])) for side in (0, 1) if done(standing, (at, side)) is not None]


# What fillings meet.

def meets_standing(plain, standing):
    """Whether a plain filling meets all asks, keeps all facts, and has the filled holes as they are told."""
    asks, facts, filling = standing
    return (all(met(ask, plain) for ask in asks) and kept(plain, facts) and
            all(levels(dict(plain)[x]) == levels(fill(t, plain)) for x, t in filling))


def holes_all(asks, facts):
    return sorted(set().union(*[holes_asked(ask) for ask in asks], [x for _, x in facts]))


def some_asks(chance, holes):
    """A few asks, of which some share parts of their terms."""
    return [some_ask(chance, chance.choice([1, 2, 3, 4]), holes) for _ in range(chance.randrange(1, 4))]


class Walked(unittest.TestCase):
    def checked(self, ask, side, asks, facts=(), filling=()):
        """A step of the one ask leads to this standing, and just so with others ahead and behind."""
        self.assertEqual(walked([ask], [(0, side)]), (asks, facts, filling), ask)
        ahead, behind = ("alike", sign("ahead", A), sign("ahead", B)), ("fresh", "z", sign("behind"))
        self.assertEqual(walked([ahead, ask, behind], [(1, side)]), ([ahead, behind] + asks, facts, filling))
        if (ask[0] == "fresh" or side == 0) and not filling:
            with self.assertRaises(BadStep):
                walked([ask], [(0, 1)])

    def refused(self, ask, *sides):
        for side in sides:
            with self.assertRaises(BadStep) as caught:
                walked([ask], [(0, side)])
            self.assertEqual(caught.exception.at, 0)

    def test_beginning(self):
        self.assertEqual(walked([], []), ([], (), ()))
        asks = [("alike", X, Y), ("fresh", "a", X), ("alike", X, Y)]
        self.assertEqual(walked(asks, []), (asks, (), ()))
        self.assertEqual(walked([], [], facts=(("a", "X"), ("b", "W"))), ([("fresh", "a", X), ("fresh", "b", hole("W"))], (), ()))
        self.assertEqual(walked(asks, [], facts=(("a", "X"),)), (asks + [("fresh", "a", X)], (), ()))

    def test_alike_names_and_signs(self):
        self.checked(("alike", A, A), 0, [])
        self.checked(("alike", sign("f"), sign("f")), 0, [])
        self.checked(("alike", sign("f", A, X, C), sign("f", B, Y, Z)), 0, [("alike", A, B), ("alike", X, Y), ("alike", C, Z)])
        for other in (B, sign("a"), shut("a", A)):
            self.refused(("alike", A, other), 0, 1)
            self.refused(("alike", other, A), 0, 1)
        self.refused(("alike", sign("f", A), sign("g", A)), 0, 1)
        self.refused(("alike", sign("f", A), sign("f", A, A)), 0, 1)
        self.refused(("alike", sign("f"), shut("f", A)), 0, 1)

    def test_alike_shuts(self):
        self.checked(("alike", shut("a", A), shut("a", X)), 0, [("alike", A, X)])
        self.checked(("alike", shut("a", A), shut("b", B)), 0, [("alike", A, A), ("fresh", "a", B)])
        self.checked(("alike", shut("a", sign("f", A, B)), shut("b", sign("f", A, shut("ab", X)))), 0,
                     [("alike", sign("f", A, B), sign("f", B, shut("ba", AB))), ("fresh", "a", sign("f", A, shut("ab", X)))])
        self.checked(("alike", shut("b", X), shut("a", hole("X", ("b", "c")))), 0,
                     [("alike", X, ("hole", (("a", "b"), ("b", "c"), ("c", "a")), "X")), ("fresh", "b", hole("X", ("b", "c")))])

    def test_alike_one_hole(self):
        self.checked(("alike", X, X), 0, [])
        self.checked(("alike", AB, AB), 0, [])
        self.checked(("alike", X, AB), 0, [("fresh", "a", X), ("fresh", "b", X)])
        self.checked(("alike", AB, hole("X", ("b", "c"))), 0, [("fresh", a, X) for a in "abc"])
        self.checked(("alike", hole("X", ("a", "b"), ("c", "d")), AB), 0, [("fresh", "c", X), ("fresh", "d", X)])
        self.refused(("alike", X, AB), 1)
        self.refused(("alike", X, X), 1)

    def test_hole_filled(self):
        self.checked(("alike", X, A), 0, [], (), (("X", A),))
        self.checked(("alike", A, X), 1, [], (), (("X", A),))
        self.refused(("alike", X, A), 1)
        self.refused(("alike", A, X), 0)
        self.checked(("alike", AB, sign("f", A, B, C)), 0, [], (), (("X", sign("f", B, A, C)),))
        turn = (("a", "b"), ("b", "c"), ("c", "a"))
        self.checked(("alike", ("hole", turn, "X"), sign("f", A, B, C)), 0, [], (), (("X", sign("f", C, A, B)),))
        self.checked(("alike", shut("b", hole("Y", ("a", "c"))), AB), 1, [], (),
                     (("X", shut("a", ("hole", (("a", "c"), ("b", "a"), ("c", "b")), "Y"))),))

    def test_either_side_of_two_holes(self):
        self.checked(("alike", X, Y), 0, [], (), (("X", Y),))
        self.checked(("alike", X, Y), 1, [], (), (("Y", X),))
        self.checked(("alike", AB, hole("Y", ("b", "c"))), 0, [], (), (("X", ("hole", (("a", "b"), ("b", "c"), ("c", "a")), "Y")),))
        self.checked(("alike", AB, hole("Y", ("b", "c"))), 1, [], (), (("Y", ("hole", (("a", "c"), ("b", "a"), ("c", "b")), "X")),))

    def test_hole_that_stands_in_the_other_side(self):
        for other in (sign("f", X), shut("a", X), sign("g", A, sign("f", AB)), shut("a", shut("b", AB))):
            self.refused(("alike", X, other), 0, 1)
            self.refused(("alike", other, X), 0, 1)

    def test_filled_throughout(self):
        asks = [("alike", sign("f", X, Y), AB), ("fresh", "a", shut("b", X)), ("alike", AB, sign("g", A)), ("fresh", "c", X)]
        self.assertEqual(walked(asks, [(2, 0)]), ([
            ("alike", sign("f", sign("g", B), Y), sign("g", A)), ("fresh", "a", shut("b", sign("g", B))),
            ("fresh", "c", sign("g", B))], (), (("X", sign("g", B)),)))
        chain = [("alike", X, sign("f", hole("Y", ("a", "b")), Z)), ("alike", hole("Y", ("b", "c")), sign("g", B, C)),
                 ("alike", A, Z)]
        self.assertEqual(walked(chain, [(0, 0)])[2], (("X", sign("f", hole("Y", ("a", "b")), Z)),))
        self.assertEqual(walked(chain, [(0, 0), (0, 0)])[2],
                         (("X", sign("f", sign("g", C, A), Z)), ("Y", sign("g", C, B))))
        self.assertEqual(walked(chain, [(0, 0), (0, 0), (0, 1)]),
                         ([], (), (("X", sign("f", sign("g", C, A), A)), ("Y", sign("g", C, B)), ("Z", A))))

    def test_facts_of_a_filled_hole_become_asks(self):
        term = sign("f", A, Y)
        asks = [("fresh", "c", X), ("fresh", "a", X), ("fresh", "b", Y), ("fresh", "b", X), ("alike", X, term), ("fresh", "d", D)]
        four = [(0, 0)] * 4
        self.assertEqual(walked(asks, four), (asks[4:], (("a", "X"), ("b", "X"), ("b", "Y"), ("c", "X")), ()))
        self.assertEqual(walked(asks, four + [(0, 0)]), (
            [asks[5], ("fresh", "a", term), ("fresh", "b", term), ("fresh", "c", term)], (("b", "Y"),), (("X", term),)))
        self.assertEqual(walked([("alike", AB, Y)], [(1, 0), (0, 0)], facts=(("a", "X"),)),
                         ([("fresh", "a", hole("Y", ("a", "b")))], (), (("X", hole("Y", ("a", "b"))),)))

    def test_fresh(self):
        self.checked(("fresh", "a", B), 0, [])
        self.refused(("fresh", "a", A), 0, 1)
        self.checked(("fresh", "a", sign("a")), 0, [])
        self.checked(("fresh", "a", sign("f", A, X, sign("g"))), 0,
                     [("fresh", "a", A), ("fresh", "a", X), ("fresh", "a", sign("g"))])
        self.checked(("fresh", "a", shut("a", A)), 0, [])
        self.checked(("fresh", "a", shut("b", sign("f", A, B))), 0, [("fresh", "a", sign("f", A, B))])
        self.checked(("fresh", "a", X), 0, [], (("a", "X"),))
        self.checked(("fresh", "a", AB), 0, [], (("b", "X"),))
        self.checked(("fresh", "c", AB), 0, [], (("c", "X"),))
        self.checked(("fresh", "a", ("hole", (("a", "b"), ("b", "c"), ("c", "a")), "X")), 0, [], (("c", "X"),))

    def test_facts_come_once_and_rise(self):
        asks = [("fresh", "b", X), ("fresh", "a", AB), ("fresh", "a", Y), ("fresh", "b", X), ("fresh", "a", X)]
        self.assertEqual(walked(asks, [(0, 0)] * 5), ([], (("a", "X"), ("a", "Y"), ("b", "X")), ()))
        self.assertEqual(walked([], [(1, 0), (0, 0)], facts=(("a", "X"), ("b", "X"))), ([], (("a", "X"), ("b", "X")), ()))

    def test_against_the_words(self):
        chance = drawn(51)
        lengths = []
        for _ in range(400):
            asks, facts = some_asks(chance, ["X", "Y"]), some_facts(chance, THREE, ["X", "Y"])[:2]
            standing, steps = begun(asks, facts), []
            while possible(standing):
                for step in [(at, side) for at in range(len(standing[0])) for side in (0, 1)]:
                    if done(standing, step) is None:
                        with self.assertRaises(BadStep) as caught:
                            walked(asks, steps + [step, (0, 0)], facts=facts)
                        self.assertEqual(caught.exception.at, len(steps))
                steps.append(chance.choice(possible(standing)))
                standing = done(standing, steps[-1])
                self.assertEqual(walked(asks, steps, facts=facts), standing)
            lengths.append(len(steps))
        self.assertGreater(len([many for many in lengths if many > 6]), 100)

    def test_no_step_changes_what_is_met(self):
        chance = drawn(52)
        seen = {True: 0, False: 0}
        for _ in range(150):
            asks, facts = some_asks(chance, ["X", "Y"]), some_facts(chance, THREE, ["X", "Y"])[:1]
            plain = list(plain_fillings(THREE, holes_all(asks, facts)))
            standing, steps = begun(asks, facts), []
            wanted = [all(met(ask, one) for ask in asks) and kept(one, facts) for one in plain]
            while possible(standing):
                steps.append(chance.choice(possible(standing)))
                standing = done(standing, steps[-1])
                told = walked(asks, steps, facts=facts)
                self.assertEqual([meets_standing(one, told) for one in plain], wanted, (asks, facts, steps))
            seen[any(wanted)] += 1
        self.assertGreater(min(seen.values()), 20)


class BadSteps(unittest.TestCase):
    def test_anything_in_the_place_of_a_step(self):
        asks = [("alike", X, A)]
        for thing in BAD_STEPS + many_odd():
            with self.assertRaises(BadStep) as caught:
                walked(asks, [thing])
            self.assertEqual(caught.exception.at, 0)
            with self.assertRaises(BadStep) as caught:
                walked(asks + [("alike", sign("f", B, C), sign("f", B, C))], [(1, 0), (1, 0), (1, 0), thing, (0, 0)])
            self.assertEqual(caught.exception.at, 3)

    def test_first_one_that_cannot_be_done(self):
        asks = [("alike", A, B), ("alike", A, A)]
        for steps, at in [([(0, 0)], 0), ([(1, 0), (0, 0)], 1), ([(1, 0), (1, 0)], 1), ([(0, 0), None], 0), ([None, (0, 0)], 0),
                          ([(1, 0), None, (0, 0)], 1)]:
            with self.assertRaises(BadStep) as caught:
                walked(asks, steps)
            self.assertEqual(caught.exception.at, at)
        with self.assertRaises(BadStep) as caught:
            walked([], [(0, 0)])
        self.assertEqual(caught.exception.at, 0)


class Made(unittest.TestCase):
    def checked(self, asks, facts=()):
        """What made tells leads where it says, by the words of the document."""
        told = made(asks, facts=facts)
        self.assertIs(type(told), tuple)
        if told[0] == "made":
            self.assertEqual(done_all(asks, told[3], facts), ([], told[1], told[2]))
            self.assertIs(type(told[3]), list)
            filled_holes = [x for x, _ in told[2]]
            left = set().union(*[all_holes(t) for _, t in told[2]], [x for _, x in told[1]])
            self.assertEqual([x for x in filled_holes if x in left], [])
        else:
            word, steps, at = told
            self.assertEqual((word, type(steps)), ("never", list))
            standing = done_all(asks, steps, facts)
            self.assertEqual([step for step in possible(standing) if step[0] == at], [])
            self.assertTrue(0 <= at < len(standing[0]))
        self.assertIs(lets(asks, told, facts=facts), True)
        return told

    def test_made_by_hand(self):
        self.assertEqual(made([]), ("made", (), (), []))
        self.assertEqual(made([], facts=(("a", "X"),)), ("made", (("a", "X"),), (), [(0, 0)]))
        self.assertEqual(made([("alike", X, A)]), ("made", (), (("X", A),), [(0, 0)]))
        self.assertEqual(made([("alike", A, X)]), ("made", (), (("X", A),), [(0, 1)]))
        self.assertEqual(self.checked([("alike", X, Y)])[1], ())
        told = self.checked([("alike", shut("a", X), shut("b", Y))])
        self.assertIn(told[1:3], [((("b", "X"),), (("Y", AB),)), ((("a", "Y"),), (("X", hole("Y", ("a", "b"))),))])
        told = self.checked([("alike", sign("f", X, Y), sign("f", sign("g", Y), A))])
        self.assertEqual(told[1:3], ((), (("X", sign("g", A)), ("Y", A))))
        told = self.checked([("alike", X, AB)], (("c", "X"),))
        self.assertEqual(told[1:3], ((("a", "X"), ("b", "X"), ("c", "X")), ()))
        told = self.checked([("alike", X, sign("f", Y))], (("a", "X"), ("b", "Y")))
        self.assertEqual(told[1:3], ((("a", "Y"), ("b", "Y")), (("X", sign("f", Y)),)))

    def test_never_by_hand(self):
        for asks in [
            [("alike", A, B)], [("alike", sign("f"), sign("g"))], [("alike", sign("f", A), sign("f", A, A))],
            [("alike", sign("a"), shut("a", A))], [("alike", sign("a"), A)], [("alike", A, shut("a", A))],
            [("alike", X, sign("f", X))], [("alike", shut("a", X), X)], [("fresh", "a", A)], [("fresh", "a", shut("b", A))],
            [("alike", X, A), ("alike", X, B)], [("alike", X, sign("f", Y)), ("alike", Y, sign("f", X))],
            [("alike", shut("a", A), shut("b", A))], [("alike", shut("ab", X), shut("ba", sign("f", X)))],
            [("fresh", "a", X), ("alike", X, sign("f", A))], [("alike", AB, X), ("alike", X, sign("f", B))],
        ]:
            self.assertEqual(self.checked(asks)[0], "never", asks)
            self.assertEqual(self.checked([("alike", Z, Y), ("fresh", "c", D)] + asks + [("alike", Z, Z)])[0], "never")
        self.assertEqual(self.checked([("alike", X, A)], (("a", "X"),))[0], "never")
        self.assertEqual(self.checked([("alike", X, A)], (("b", "X"),))[0], "made")

    def test_alike_without_filling_is_what_facts_tell(self):
        chance = drawn(53)
        for _ in range(300):
            ask = some_ask(chance, 4, [])
            self.assertEqual(self.checked([ask])[0] == "made", needs(ask) is not None, ask)

    def test_against_plain_fillings(self):
        chance = drawn(54)
        seen = {"made": 0, "never": 0}
        for _ in range(500):
            asks, facts = some_asks(chance, ["X", "Y"]), some_facts(chance, THREE, ["X", "Y"])[:chance.randrange(3)]
            told = self.checked(asks, facts)
            seen[told[0]] += 1
            for plain in plain_fillings(THREE, holes_all(asks, facts)):
                wanted = told[0] == "made" and meets_standing(plain, ([], told[1], told[2]))
                self.assertIs(all(met(ask, plain) for ask in asks) and kept(plain, facts), wanted, (asks, facts, plain))
        self.assertGreater(min(seen.values()), 120)

    def test_what_is_made_is_met(self):
        chance = drawn(55)
        seen = 0
        for _ in range(800):
            asks, facts = some_asks(chance, ["X", "Y", "Z"]), some_facts(chance, THREE, ["X", "Y"])[:1]
            told = self.checked(asks, facts)
            if told[0] != "made":
                continue
            seen += 1
            holes = holes_all(asks, facts)
            names = ["q" + str(at) for at in range(len(holes))]
            closed = tuple([(x, sign(a)) for x, a in zip(holes, names)])
            plain = then_filling(told[2], closed)
            self.assertTrue(kept(plain, facts) and all(met(ask, plain) for ask in asks), (asks, facts))
        self.assertGreater(seen, 200)

    def test_all_terms_alike_are_found(self):
        pattern = [shut("a", sign("f", X, hole("Y", ("a", "b")))), sign("f", X, shut("b", X)), shut("ab", AB)]
        for one, term in itertools.product(pattern, plain_terms(THREE)):
            self.checked([("alike", one, term)])
            self.assertEqual(self.checked([("alike", one, fill(one, (("X", term), ("Y", term))))])[0], "made")

    def test_wide_and_deep(self):
        holes = ["X1", "X2", "X3", "X4", "X5", "X6"]
        asks = [("alike", hole(x), sign("f", *[hole(y)] * 3)) for x, y in zip(holes, holes[1:])]
        told = self.checked(asks)
        self.assertEqual(dict(told[2])["X1"][0], "sign")
        self.assertEqual(parts_of(dict(told[2])["X1"]), (3 ** 6 - 1) // 2)
        both = self.checked(asks[:4] + [("alike", hole("X1"), sign("f", *[hole("Y")] * 3))])
        self.assertEqual(both[0], "made")
        term, other = X, A
        for _ in range(300):
            term, other = put_at(sign("f", B, shut("a", A)), (1, 0), term), put_at(sign("f", B, shut("c", A)), (1, 0), other)
        told = made([("alike", term, other)])
        self.assertEqual(told[0], "never")
        told = made([("alike", term, put_at(term, (1, 0) * 300, Y)), ("alike", Y, term)])
        self.assertEqual(told[0], "never")
        told = made([("alike", Z, term), ("alike", term, Z)])
        self.assertEqual(told[:2], ("made", ()))
        self.assertIs(lets([("alike", Z, term), ("alike", term, Z)], told), True)


class Lets(unittest.TestCase):
    def test_other_steps(self):
        chance = drawn(56)
        seen = {"made": 0, "never": 0, "unlike": 0}
        for _ in range(300):
            asks, facts = some_asks(chance, ["X", "Y"]), some_facts(chance, THREE, ["X", "Y"])[:1]
            standing, steps, first = begun(asks, facts), [], made(asks, facts=facts)
            while possible(standing):
                steps.append(chance.choice(possible(standing)))
                standing = done(standing, steps[-1])
            told = ("never", steps, len(standing[0]) - 1) if standing[0] else ("made", standing[1], standing[2], steps)
            self.assertIs(lets(asks, told, facts=facts), True)
            self.assertEqual(told[0], first[0])
            seen[told[0]] += 1
            seen["unlike"] += told != first
        self.assertGreater(min(seen.values()), 50)

    def test_anything_else_than_made(self):
        asks, facts = [("alike", sign("f", X, A), sign("f", Y, A)), ("fresh", "b", X)], (("a", "X"),)
        right = made(asks, facts=facts)
        self.assertEqual((right[0], len(right[1]), len(right[2])), ("made", 2, 1))
        word, told, filling, steps = right
        wrong = [
            (word, (), filling, steps), (word, told[:1], filling, steps), (word, told + (("c", "Y"),), filling, steps),
            (word, list(told), filling, steps), (word, told[::-1], filling, steps), (word, told, (), steps),
            (word, told, (("X", Z),), steps), (word, told, list(filling), steps), (word, told, dict(filling), steps),
            (word, told, filling + (("Z", A),), steps), (word, told, None, steps), (word, None, filling, steps),
            (word, told, filling, tuple(steps)), (word, told, filling, steps[:-1]), (word, told, filling, steps[-1:]),
            (word, told, filling, steps + [(0, 0)]), (word, told, filling, []), (word, told, filling, None),
            (word, told, filling, steps[:-1] + [(False, 0)]), (word, told, filling, steps[:-1] + [(0, False)]),
            (word, told, filling, steps[:-1] + [[0, 0]]), (word, told, filling), (word, told, filling, steps, 0), list(right),
            ("never", told, filling, steps), ("never", steps, 0), (None, told, filling, steps), (), ("made",), word,
            ("made", steps, 0), (["made"], told, filling, steps), ("Made", told, filling, steps),
        ]
        for answer in wrong + many_odd():
            self.assertIs(lets(asks, answer, facts=facts), False, answer)
        self.assertIs(lets(asks, right), False)
        self.assertIs(lets(asks, (word, (("a", "X"), ("b", "X")), (("Y", X),), [(1, 0), (1, 0), (1, 1), (1, 0)]), facts=facts), False)

    def test_other_fillings_that_are_no_standing(self):
        self.assertIs(lets([("alike", shut("a", X), shut("b", Y))], made([("alike", shut("a", X), shut("b", Y))])), True)
        self.assertIs(lets([("alike", X, A)], ("made", (), (("X", A),), [(0, 0)])), True)
        self.assertIs(lets([("alike", X, shut("a", A))], ("made", (), (("X", shut("b", B)),), [(0, 0)])), False)
        self.assertIs(lets([("alike", X, Y)], ("made", (), (("Y", X),), [(0, 0)])), False)
        self.assertIs(lets([("alike", X, Y)], ("made", (), (("Y", X),), [(0, 1)])), True)
        self.assertIs(lets([("alike", X, Y)], ("made", (), (("X", ["hole", (), "Y"]),), [(0, 0)])), False)

    def test_anything_else_than_never(self):
        asks = [("alike", sign("f", A, X), sign("f", B, C)), ("alike", A, A)]
        for answer in [("never", [(0, 0)], 1), ("never", [(0, 0), (2, 0)], 1), ("never", [(1, 0), (0, 0)], 0),
                       ("never", [(0, 0), (0, 0), (1, 0)], 0)]:
            self.assertIs(lets(asks, answer), True, answer)
        for answer in [
            ("never", [], 0), ("never", [], 1), ("never", [(0, 0)], 0), ("never", [(0, 0)], 2), ("never", [(0, 0)], 3),
            ("never", [(0, 0)], -2), ("never", [(0, 0)], True), ("never", [(1, 0), (0, 0)], False), ("never", [(0, 0)], "1"),
            ("never", [(0, 0)], None), ("never", [(0, 0)], (1,)), ("never", [(0, 0)], [1]), ("never", ((0, 0),), 1),
            ("never", [[0, 0]], 1), ("never", [(0, 0), (1, 0)], 0), ("never", [(0, 0)]), ("never", [(0, 0)], 1, ()),
            ["never", [(0, 0)], 1], ("never", (), (), [(0, 0)]), ("made", [(0, 0)], 1), ("made", (), (), [(0, 0)]),
            ("never", [(0, 0)], 10 ** 20), ("never", None, 1), ("never", [None], 1), ("never", 1, [(0, 0)]),
            ("Never", [(0, 0)], 1), (None, [(0, 0)], 1), ("made", [(0, 0)], 1, [(0, 0)]), ("never", (), 1, [(0, 0)]),
            (None, [(0, 0)], 1, [(0, 0)]),
        ] + many_odd():
            self.assertIs(lets(asks, answer), False, answer)

    def test_asks_with_which_a_step_can_be_done(self):
        for ask in [("alike", X, A), ("alike", A, X), ("alike", X, Y), ("alike", A, A), ("alike", X, X), ("fresh", "a", B),
                    ("fresh", "a", X), ("alike", sign("f", A), sign("f", B))]:
            self.assertIs(lets([ask], ("never", [], 0)), False, ask)

    def test_odd_things_within(self):
        asks = [("alike", X, A)]
        for thing in many_odd():
            self.assertIs(lets(asks, ("made", thing, (("X", A),), [(0, 0)])), thing == ())
            self.assertIs(lets(asks, ("made", (), thing, [(0, 0)])), False)
            self.assertIs(lets(asks, ("made", (), (("X", thing),), [(0, 0)])), False)
            self.assertIs(lets(asks, ("made", (), (("X", A),), thing)), False)
            self.assertIs(lets(asks, (thing, (), (("X", A),), [(0, 0)])), False)
            self.assertIs(lets([("alike", A, B)], ("never", thing, 0)), thing == [])
            self.assertIs(lets([("alike", A, B)], ("never", [], thing)), thing == 0 and type(thing) is int)


class Refusals(unittest.TestCase):
    def test_no_ask(self):
        for thing in NO_ASKS + odd_but():
            for facts in [(), None, [], thing]:
                for asks in [[thing], [("alike", A, B), thing], [thing, ("alike", A, A)]]:
                    for call in (lambda: walked(asks, [], facts=facts), lambda: walked(asks, [None], facts=facts),
                                 lambda: made(asks, facts=facts), lambda: lets(asks, None, facts=facts)):
                        with self.assertRaises(NoAsk):
                            call()

    def test_no_facts(self):
        for thing in NO_FACTS + odd_but(()):
            for asks in [[], [("alike", A, B)]]:
                for call in (lambda: walked(asks, [], facts=thing), lambda: walked(asks, [None], facts=thing),
                             lambda: made(asks, facts=thing), lambda: lets(asks, None, facts=thing),
                             lambda: lets(asks, ("never", [], 0), facts=thing)):
                    with self.assertRaises(NoFacts):
                        call()


class ToldThings(unittest.TestCase):
    def test_lists_changed(self):
        asks = [("alike", sign("f", X, A), sign("f", Y, A)), ("fresh", "b", X)]
        handed, steps = list(asks), [(0, 0)]
        first, second, never = walked(handed, steps), made(handed), made(handed + [("alike", A, B)])
        kept_first, kept_second, kept_never = (list(first[0]),) + first[1:], second[:3] + (list(second[3]),), \
            ("never", list(never[1]), never[2])
        self.assertEqual((handed, steps), (asks, [(0, 0)]))
        first[0].append(None)
        second[3].clear()
        never[1].append((0, 0))
        self.assertEqual(walked(handed, steps), kept_first)
        self.assertEqual(made(handed), kept_second)
        self.assertEqual(made(handed + [("alike", A, B)]), kept_never)
        self.assertEqual((handed, steps), (asks, [(0, 0)]))

    def test_what_is_handed_in_is_no_part_of_what_is_told(self):
        handed = [("alike", X, A)]
        told = walked(handed, [])
        handed.append(("alike", A, B))
        self.assertEqual(told, ([("alike", X, A)], (), ()))
        told[0].clear()
        self.assertEqual(len(handed), 2)


if __name__ == "__main__":
    unittest.main()
