"""Asks kept, and lots of asks that can and can't be met together."""

import itertools
import unittest

from shutnames.asks import Asks, least_lots, most_lots
from shutnames.errors import Clash, Missing, NoAsk, NoFilling
from shutnames.making import lets, made
from shutnames.terms import put_at
from shutnames.texts import ask_text

from test_facts import NO_ASKS, holes_asked, some_ask
from test_fillings import NO_FILLINGS, odd_but
from things import (A, B, C, THREE, X, Y, Z, drawn, fill, hole, kept, levels, many_odd, met, plain_fillings, shut, sign)

AB = hole("X", ("a", "b"))
XA, XB, YA, YB, XY = [("alike", one, other) for one, other in [(X, A), (X, B), (Y, A), (Y, B), (X, Y)]]
NEVER = ("fresh", "a", A)
TRUE = ("alike", sign("f"), sign("f"))
FRESH = ("fresh", "a", X)


ENDS = [X, Y, Z, AB, A, B, sign("f", X), sign("f", A), sign("f", sign("f", Y)), shut("a", X), shut("b", Y), shut("a", A)]


def joint_ask(chance):
    """An ask that can often be met, though not always together with others."""
    if chance.random() < 0.2:
        return some_ask(chance, chance.choice([1, 2, 3]), ["X", "Y"])
    return ("alike", chance.choice([X, Y, Z]), chance.choice(ENDS)) if chance.random() < 0.8 else \
        ("fresh", chance.choice(THREE), chance.choice(ENDS))


def together(asks):
    return made(asks)[0] == "made"


def asks_of(*things):
    """An Asks that keeps these, put one after the other."""
    asks = Asks()
    for thing in things:
        asks.put(thing)
    return asks


def all_lots(many):
    """All rising tuples of places in a list of so many."""
    return [lot for size in range(many + 1) for lot in itertools.combinations(range(many), size)]


def lots_by_hand(asks):
    """The least lots that can't be met together and the greatest that can, over all lots."""
    able = {lot: together([asks[at] for at in lot]) for lot in all_lots(len(asks))}
    least = [lot for lot in able if not able[lot] and all(able[tuple(at for at in lot if at != out)] for out in lot)]
    most = [lot for lot in able if able[lot] and
            not any(able[tuple(sorted(lot + (more,)))] for more in range(len(asks)) if more not in lot)]
    return sorted(least), sorted(most)


def state(asks):
    return asks.numbers(), asks.asks(), len(asks), str(asks), asks.answer()


class Put(unittest.TestCase):
    def test_numbers(self):
        asks = Asks()
        self.assertEqual((asks.numbers(), asks.asks(), len(asks)), ([], [], 0))
        self.assertEqual([asks.put(one) for one in (XY, TRUE, XY, FRESH)], [0, 1, 2, 3])
        self.assertEqual((asks.numbers(), asks.asks(), len(asks)), ([0, 1, 2, 3], [XY, TRUE, XY, FRESH], 4))

    def test_none_is_given_twice(self):
        asks = asks_of(XY, TRUE)
        self.assertIsNone(asks.take(1))
        self.assertEqual((asks.numbers(), asks.asks(), len(asks)), ([0], [XY], 1))
        self.assertEqual(asks.put(XA), 2)
        with self.assertRaises(Clash):
            asks.put(YB)
        self.assertEqual(asks.put(YA), 3)
        asks.take(0)
        asks.take(3)
        asks.take(2)
        self.assertEqual((asks.numbers(), asks.asks(), len(asks)), ([], [], 0))
        self.assertEqual(asks.put(XB), 4)
        self.assertEqual((asks.numbers(), asks.asks()), ([4], [XB]))

    def test_two_stay_apart(self):
        one, other = Asks(), Asks()
        one.put(XA)
        one.mark()
        self.assertEqual((len(other), other.put(XB), one.numbers()), (0, 0, [0]))
        self.assertEqual((one.asks(), other.asks()), ([XA], [XB]))
        with self.assertRaises(Missing):
            other.back(0)
        other.take(0)
        self.assertEqual((one.asks(), other.asks()), ([XA], []))


class Clashes(unittest.TestCase):
    def refused(self, asks, ask):
        """The lot told; all is as ahead of it."""
        before = state(asks)
        with self.assertRaises(Clash) as caught:
            asks.put(ask)
        self.assertEqual(state(asks), before)
        lot = caught.exception.lot
        self.assertIs(type(lot), tuple)
        self.assertEqual(lot, tuple(sorted(set(lot) & set(asks.numbers()))))
        rows = dict(zip(asks.numbers(), asks.asks()))
        self.assertIs(together([rows[at] for at in lot] + [ask]), False)
        for out in lot:
            self.assertIs(together([rows[at] for at in lot if at != out] + [ask]), True)
        return lot

    def test_by_hand(self):
        self.assertEqual(self.refused(Asks(), NEVER), ())
        self.assertEqual(self.refused(asks_of(XA), NEVER), ())
        self.assertEqual(self.refused(asks_of(TRUE, XA, YA), XB), (1,))
        self.assertEqual(self.refused(asks_of(XA, TRUE, XY), YB), (0, 2))
        self.assertEqual(self.refused(asks_of(XA), FRESH), (0,))
        self.assertEqual(self.refused(asks_of(FRESH, XY), YA), (0, 1))
        self.assertIn(self.refused(asks_of(XA, XA), XB), [(0,), (1,)])
        self.assertIn(self.refused(asks_of(XA, XY, TRUE, YA), ("fresh", "a", Y)), [(0, 1), (3,)])

    def test_behind_take(self):
        asks = asks_of(TRUE, XA, XY)
        asks.take(0)
        self.assertEqual(self.refused(asks, YB), (1, 2))
        asks.take(1)
        self.assertEqual(asks.put(YB), 3)
        self.assertEqual(self.refused(asks, XA), (2, 3))

    def test_drawn(self):
        chance = drawn(81)
        sizes = []
        for _ in range(250):
            asks = Asks()
            for _ in range(5):
                ask = joint_ask(chance)
                if together(asks.asks() + [ask]):
                    number = asks.put(ask)
                    self.assertEqual((asks.numbers()[-1], asks.asks()[-1]), (number, ask))
                else:
                    sizes.append(len(self.refused(asks, ask)))
        self.assertEqual(sorted(set(sizes))[:3], [0, 1, 2])


class Marks(unittest.TestCase):
    def test_back(self):
        asks = asks_of(XY, TRUE)
        self.assertEqual(asks.mark(), 0)
        asks.take(0)
        self.assertEqual(asks.put(XA), 2)
        self.assertEqual(asks.mark(), 1)
        self.assertIsNone(asks.back(0))
        self.assertEqual((asks.numbers(), asks.asks()), ([0, 1], [XY, TRUE]))
        self.assertEqual(asks.put(YB), 3)
        with self.assertRaises(Missing) as caught:
            asks.back(1)
        self.assertEqual(caught.exception.number, 1)
        self.assertEqual(asks.numbers(), [0, 1, 3])
        asks.back(0)
        asks.back(0)
        self.assertEqual((asks.numbers(), asks.mark(), asks.put(XB)), ([0, 1], 2, 4))

    def test_marks_of_nothing(self):
        asks = Asks()
        self.assertEqual((asks.mark(), asks.mark()), (0, 1))
        asks.put(XA)
        asks.back(1)
        self.assertEqual((len(asks), asks.put(XB)), (0, 1))
        asks.back(0)
        self.assertEqual((len(asks), asks.put(XB), asks.mark()), (0, 2, 2))

    def test_against_a_model(self):
        chance = drawn(82)
        for _ in range(60):
            asks, rows, given, marks, marked = Asks(), {}, 0, {}, 0
            for _ in range(40):
                what = chance.choice(["put", "put", "take", "mark", "back"])
                number = chance.randrange(-1, max(given, marked) + 2)
                if what == "put":
                    ask = chance.choice([XA, YA, XY, TRUE, FRESH, XB, ("fresh", "b", Y)])
                    if together([rows[at] for at in sorted(rows)] + [ask]):
                        self.assertEqual(asks.put(ask), given)
                        rows[given] = ask
                        given += 1
                    else:
                        with self.assertRaises(Clash):
                            asks.put(ask)
                elif what == "mark":
                    self.assertEqual(asks.mark(), marked)
                    marks[marked] = dict(rows)
                    marked += 1
                elif number not in (rows if what == "take" else marks):
                    with self.assertRaises(Missing) as caught:
                        (asks.take if what == "take" else asks.back)(number)
                    self.assertEqual(caught.exception.number, number)
                elif what == "take":
                    asks.take(number)
                    del rows[number]
                else:
                    asks.back(number)
                    rows = dict(marks[number])
                    marks = {mark: then for mark, then in marks.items() if mark <= number}
                self.assertEqual((asks.numbers(), asks.asks()), (sorted(rows), [rows[at] for at in sorted(rows)]))
                self.assertEqual(len(asks), len(rows))

    def test_copied(self):
        asks = asks_of(XY, TRUE)
        asks.mark()
        asks.take(1)
        twin = asks.copied()
        for one, other in ((asks, twin), (twin, asks.copied())):
            before = state(other)
            one.put(FRESH)
            one.back(0)
            one.put(TRUE)
            one.take(0)
            self.assertEqual(state(other), before)
        # It goes on with the same numbers, and with marks of its own.
        asks = asks_of(XY, TRUE)
        asks.mark()
        twin = asks.copied()
        self.assertEqual([asks.put(XA), asks.mark(), twin.put(XA), twin.mark()], [2, 1, 2, 1])
        twin.back(0)
        self.assertEqual((asks.numbers(), twin.numbers()), ([0, 1, 2], [0, 1]))
        asks.back(1)

    def test_missing(self):
        asks = asks_of(TRUE, XA)
        asks.mark()
        asks.mark()
        asks.take(0)
        asks.back(0)
        asks.take(1)
        # True and False are no numbers.
        for number in (1, 2, -1, 10 ** 20, True, False):
            for call in (asks.take, asks.back):
                with self.assertRaises(Missing) as caught:
                    call(number)
                self.assertIs(caught.exception.number, number)
        self.assertEqual(asks.numbers(), [0])


class Answers(unittest.TestCase):
    def checked(self, asks):
        """What is told is what made may tell of the asks, in order: checked by plain fillings."""
        told = asks.answer()
        self.assertIs(type(told), tuple)
        facts, filling = told
        self.assertEqual(("made",) + told, made(asks.asks())[:3])
        self.assertIs(lets(asks.asks(), ("made", facts, filling, made(asks.asks())[3])), True)
        holes = sorted(set().union(*[holes_asked(ask) for ask in asks.asks()]))
        for plain in plain_fillings(THREE, holes):
            wanted = kept(plain, facts) and all(levels(dict(plain)[x]) == levels(fill(t, plain)) for x, t in filling)
            self.assertIs(asks.meets(plain), wanted)
            self.assertIs(all(met(ask, plain) for ask in asks.asks()), wanted)
        return told

    def test_by_hand(self):
        self.assertEqual(Asks().answer(), ((), ()))
        self.assertEqual(self.checked(asks_of(XA)), ((), (("X", A),)))
        self.assertEqual(self.checked(asks_of(FRESH)), ((("a", "X"),), ()))
        self.assertEqual(self.checked(asks_of(XY, XB)), ((), (("X", B), ("Y", B))))
        asks = asks_of(XA, ("fresh", "b", Y), YA)
        self.assertEqual(self.checked(asks), ((), (("X", A), ("Y", A))))
        asks.take(2)
        self.assertEqual(self.checked(asks), ((("b", "Y"),), (("X", A),)))

    def test_drawn(self):
        chance = drawn(83)
        for _ in range(40):
            asks = Asks()
            for _ in range(4):
                ask = joint_ask(chance)
                if together(asks.asks() + [ask]):
                    asks.put(ask)
            self.checked(asks)

    def test_meets(self):
        asks = asks_of(("alike", shut("a", X), shut("b", Y)), FRESH, ("fresh", "b", X))
        for filling, wanted in [
            ((("X", C), ("Y", C)), True), ((("X", A), ("Y", B)), False), ((("X", B), ("Y", A)), False),
            ((("X", C), ("Y", C), ("Z", A)), True), ((("W", A), ("X", C), ("Y", C)), True), ((("X", C), ("Y", B)), False),
            ((("W", A), ("X", C), ("Y", B)), False), ((("X", shut("a", A)), ("Y", shut("c", C))), True),
        ]:
            self.assertIs(asks.meets(filling), wanted, filling)
        self.assertIs(Asks().meets(()), True)
        self.assertIs(Asks().meets((("X", A),)), True)
        self.assertIs(asks_of(TRUE).meets(()), True)

    def test_no_filling(self):
        asks = asks_of(XY, ("fresh", "c", Z))
        for filling in [(), (("X", A), ("Y", A)), (("X", A), ("Z", A)), (("Y", A), ("Z", A)), (("X", A), ("Y", A), ("Z", X)),
                        (("X", A), ("Y", B)), (("W", X), ("X", A), ("Y", A), ("Z", A)), (("X", Y), ("Y", Y), ("Z", A))]:
            with self.assertRaises(NoFilling):
                asks.meets(filling)
        for thing in NO_FILLINGS + odd_but(()) + [(("X", X),)]:
            for one in (asks, Asks(), asks_of(XA)):
                with self.assertRaises(NoFilling):
                    one.meets(thing)
        asks.take(1)
        self.assertIs(asks.meets((("X", A), ("Y", A))), True)
        self.assertIs(asks.meets((("X", A), ("Y", B))), False)


class WrittenAndCompared(unittest.TestCase):
    def test_written(self):
        self.assertEqual(str(Asks()), "")
        self.assertEqual(str(asks_of(XA)), "X = a")
        asks = asks_of(("alike", shut("a", AB), Y), ("fresh", "b", sign("g", Z, A)), TRUE)
        self.assertEqual(str(asks), "[a](a b)X = Y\nb # g(Z, a)\nf() = f()")
        asks.take(1)
        self.assertEqual(str(asks), "[a](a b)X = Y\nf() = f()")
        self.assertEqual(str(asks), "\n".join(ask_text(ask) for ask in asks.asks()))

    def test_compared(self):
        one, other = asks_of(XY, TRUE), asks_of(XY, TRUE)
        self.assertTrue(one == other)
        self.assertFalse(one != other)
        other.mark()
        self.assertTrue(one == other)
        other.take(1)
        self.assertTrue(one != other)
        one.take(1)
        self.assertTrue(one == other)
        other.take(0)
        self.assertFalse(one == other)
        one.take(0)
        self.assertTrue(one == other == Asks())
        self.assertEqual((one.put(XY), other.put(XY)), (2, 2))
        self.assertTrue(one == other)

    def test_unlike_numbers_or_asks(self):
        one, other = asks_of(TRUE, XY), asks_of(XY)
        one.take(0)
        self.assertEqual(one.asks(), other.asks())
        self.assertFalse(one == other)
        self.assertFalse(asks_of(XY) == asks_of(("alike", Y, X)))
        self.assertFalse(asks_of(("alike", shut("a", A), X)) == asks_of(("alike", shut("b", B), X)))
        self.assertFalse(asks_of(XY, TRUE) == asks_of(TRUE, XY))
        self.assertTrue(asks_of(XA, YA) == asks_of(XA, YA))
        for thing in many_odd():
            self.assertFalse(one == thing)
            self.assertTrue(one != thing)
        self.assertFalse(one == "X = Y")

    def test_deep(self):
        term = X
        for _ in range(500):
            term = put_at(sign("f", B, shut("a", A)), (1, 0), term)
        self.assertTrue(asks_of(("alike", Y, term)) == asks_of(("alike", Y, put_at(term, (), term))))
        self.assertFalse(asks_of(("alike", Y, term)) == asks_of(("alike", Y, put_at(term, (1, 0) * 500, Z))))


class ToldThings(unittest.TestCase):
    def test_lists_changed(self):
        asks = asks_of(XY, TRUE)
        asks.mark()
        numbers, told = asks.numbers(), asks.asks()
        numbers.append(7)
        told[0] = NEVER
        told.clear()
        self.assertEqual((asks.numbers(), asks.asks()), ([0, 1], [XY, TRUE]))
        asks.take(0)
        asks.back(0)
        self.assertEqual((asks.numbers(), asks.asks()), ([0, 1], [XY, TRUE]))
        handed = [XA, XB, XY]
        first, second = least_lots(handed), most_lots(handed)
        first.append(None)
        second.clear()
        self.assertEqual(handed, [XA, XB, XY])
        self.assertEqual((least_lots(handed), most_lots(handed)), ([(0, 1)], [(0, 2), (1, 2)]))


class Lots(unittest.TestCase):
    def checked(self, asks):
        least, most = least_lots(asks), most_lots(asks)
        self.assertEqual((least, most), lots_by_hand(asks), asks)
        for lot in least:
            for greatest in most:
                self.assertTrue(set(lot) - set(greatest))
        return least, most

    def test_by_hand(self):
        for asks, least, most in [
            ([], [], [()]), ([XA], [], [(0,)]), ([XA, XY, YA], [], [(0, 1, 2)]), ([NEVER], [(0,)], [()]),
            ([NEVER, NEVER], [(0,), (1,)], [()]), ([XA, NEVER], [(1,)], [(0,)]), ([XA, XB], [(0, 1)], [(0,), (1,)]),
            ([XA, XA], [], [(0, 1)]), ([XA, XA, XB], [(0, 2), (1, 2)], [(0, 1), (2,)]),
            ([XA, XY, YB], [(0, 1, 2)], [(0, 1), (0, 2), (1, 2)]),
            ([XA, XY, YB, FRESH], [(0, 1, 2), (0, 3)], [(0, 1), (0, 2), (1, 2, 3)]),
            ([XA, XB, YA, YB], [(0, 1), (2, 3)], [(0, 2), (0, 3), (1, 2), (1, 3)]),
            ([XA, XB, ("alike", X, C)], [(0, 1), (0, 2), (1, 2)], [(0,), (1,), (2,)]),
            ([XA, NEVER, XB, TRUE, NEVER], [(0, 2), (1,), (4,)], [(0, 3), (2, 3)]),
            ([("alike", X, sign("f", Y)), ("alike", Y, sign("f", X)), XY], [(0, 1), (0, 2), (1, 2)], [(0,), (1,), (2,)]),
        ]:
            self.assertEqual(self.checked(asks), (least, most), asks)
            self.assertIs(type(least_lots(asks)), list)

    def test_drawn(self):
        chance = drawn(84)
        sizes = []
        for _ in range(60):
            asks = [joint_ask(chance) for _ in range(chance.randrange(2, 8))]
            least, most = self.checked(asks)
            sizes.extend([len(lot) for lot in least])
        self.assertEqual(sorted(set(sizes))[:3], [1, 2, 3])

    def test_eight_that_share_asks(self):
        chance = drawn(85)
        for _ in range(4):
            ends = [X, Y, Z, A, B]
            asks = [("alike", *chance.sample(ends, 2)) for _ in range(8)]
            self.checked(asks)

    def test_many_alike(self):
        asks = [("alike", X, sign("f" + str(at))) for at in range(12)]
        self.assertEqual(len(least_lots(asks)), 66)
        self.assertEqual(most_lots(asks), [(at,) for at in range(12)])
        self.assertEqual(most_lots([XA] * 30), [tuple(range(30))])


class Refusals(unittest.TestCase):
    def test_no_ask(self):
        asks = asks_of(XY)
        for thing in NO_ASKS + many_odd():
            with self.assertRaises(NoAsk):
                asks.put(thing)
            for call in (least_lots, most_lots):
                for things in ([thing], [XA, XB, thing], [NEVER, thing, XA]):
                    with self.assertRaises(NoAsk):
                        call(things)
        self.assertEqual((asks.numbers(), asks.put(TRUE)), ([0], 1))


if __name__ == "__main__":
    unittest.main()
