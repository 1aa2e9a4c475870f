"""Names and turns."""

import itertools
import unittest

from shutnames.errors import NoName, NoTurn
from shutnames.turns import (apart_names, back_turn, eased, is_turn, rounds_of, swaps_of, then_turn, turn_of, turned_name)

from things import FIVE, deep, drawn, led, many_odd, some_turn, turn_moving

SWAP = (("a", "b"), ("b", "a"))
ROUND = (("a", "b"), ("b", "c"), ("c", "a"))
TWO_ROUNDS = (("a", "c"), ("b", "d1"), ("c", "a"), ("d1", "e"), ("e", "b"))
TURNS = [(), SWAP, ROUND, TWO_ROUNDS]
ALL_OF_FOUR = [turn_moving("abcd", images) for images in itertools.permutations("abcd")]
NO_TURNS = [
    list(SWAP), (["a", "b"], ["b", "a"]), (("a", "b"), ["b", "a"]), (("b", "a"), ("a", "b")),
    (("a", "b"), ("a", "b"), ("b", "a")), (("a", "b"), ("b", "a"), ("b", "a")), (("a", "b"),), (("a", "b"), ("b", "c")),
    (("a", "a"),), (("a", "b"), ("b", "a"), ("c", "c")), (("a", "c"), ("b", "c"), ("c", "a")),
    (("a", "b"), ("b", "a"), ("c", "a")), (("a",), ("b", "a")), (("a", "b", "a"), ("b", "a")), (("a", "b"), ("b", "a"), ()),
    (("a", 1), (1, "a")), (("a", None), ("b", "a")), ((None, "b"), ("b", "a")), (("a", []), ("b", "a")),
    (([], "b"), ("b", "a")), (({}, "b"), ("b", "a")), (("a", {}), ("b", "a")), ((("a",), "b"), ("b", "a")),
    ((True, False), (False, True)), (("A", "b"), ("b", "A")), ("ab", "ba"), "ab", dict(SWAP), None, 0, True,
]
GOOD_NAMES = ["a", "z", "a1", "a0", "zz", "abcdefgh", "a1234567", "name"]
NO_NAMES = ["", "1", "1a", "A", "aB", "a_b", "a b", " a", "a ", "a-", "abcdefghi", "a\n", "$a", "\u00e9", "a\u0660", "a\u00b2",
            None, True, 1, ("a",), ["a"], {"a": "b"}, (), b"a"]


class IsTurn(unittest.TestCase):
    def test_turns(self):
        for turn in TURNS + ALL_OF_FOUR:
            self.assertIs(is_turn(turn), True, turn)

    def test_no_turns(self):
        for thing in NO_TURNS:
            self.assertIs(is_turn(thing), False, thing)

    def test_odd_things(self):
        for thing in many_odd():
            self.assertIs(is_turn(thing), thing == () and isinstance(thing, tuple), thing)
            for turn in [((thing, "b"), ("b", "a")), (("a", thing), ("b", "a")), (thing, ("b", "a"))]:
                self.assertIs(is_turn(turn), thing in ("a", ("a", "b")) and turn == SWAP, turn)

    def test_deep_and_large(self):
        self.assertIs(is_turn(deep(SWAP, 39)), False)
        names = ["n" + str(number) for number in range(900)]
        self.assertIs(is_turn(turn_moving(names, names[1:] + names[:1])), True)
        self.assertIs(is_turn(tuple(zip(sorted(names), sorted(names)[1:]))), False)

    def test_names(self):
        for name in GOOD_NAMES:
            self.assertIs(is_turn(tuple(sorted([(name, "m"), ("m", name)]))), True, name)
        for name in NO_NAMES:
            self.assertIs(is_turn(((name, "m"), ("m", name))), False, name)
            self.assertIs(is_turn((("m", name), (name, "m"))), False, name)


class TurnOf(unittest.TestCase):
    def test_small(self):
        self.assertEqual(turn_of([]), ())
        self.assertEqual(turn_of([("a", "a")]), ())
        self.assertEqual(turn_of([("b", "a")]), SWAP)
        self.assertEqual(turn_of([("a", "b"), ("a", "b")]), ())
        self.assertEqual(turn_of([("a", "b"), ("b", "a")]), ())
        self.assertEqual(turn_of([("a", "b"), ("c", "d")]), (("a", "b"), ("b", "a"), ("c", "d"), ("d", "c")))

    def test_order(self):
        self.assertEqual(turn_of([("a", "b"), ("b", "c")]), (("a", "c"), ("b", "a"), ("c", "b")))
        self.assertEqual(turn_of([("b", "c"), ("a", "b")]), ROUND)
        self.assertEqual(turn_of([("a", "b"), ("b", "b"), ("b", "c"), ("a", "b")]), (("a", "c"), ("c", "a")))

    def test_exchanged_one_behind_the_other(self):
        chance = drawn(1)
        for _ in range(300):
            swaps = [(chance.choice(FIVE), chance.choice(FIVE)) for _ in range(chance.randrange(8))]
            images = {name: name for name in FIVE}
            for one, other in swaps:
                images = {name: {one: other, other: one}.get(to, to) for name, to in images.items()}
            kept = list(swaps)
            self.assertEqual(turn_of(swaps), turn_moving(FIVE, [images[name] for name in FIVE]))
            self.assertEqual(swaps, kept)

    def test_no_names(self):
        for thing in NO_NAMES:
            for swaps in [[(thing, "a")], [("a", thing)], [("a", "b"), ("b", thing)], [(thing, thing)]]:
                with self.assertRaises(NoName):
                    turn_of(swaps)


class Leading(unittest.TestCase):
    def test_turned_name(self):
        self.assertEqual([turned_name(TWO_ROUNDS, name) for name in ("a", "b", "c", "d", "d1", "e", "zz9")],
                         ["c", "d1", "a", "d", "e", "b", "zz9"])
        self.assertEqual(turned_name((), "a"), "a")

    def test_then_turn(self):
        self.assertEqual(then_turn(SWAP, (("b", "c"), ("c", "b"))), (("a", "c"), ("b", "a"), ("c", "b")))
        self.assertEqual(then_turn((("b", "c"), ("c", "b")), SWAP), ROUND)
        self.assertEqual(then_turn(SWAP, SWAP), ())
        self.assertEqual(then_turn((), ROUND), ROUND)
        self.assertEqual(then_turn(ROUND, ()), ROUND)

    def test_then_turn_of_all(self):
        for one in ALL_OF_FOUR:
            for other in ALL_OF_FOUR:
                images = [led(other, led(one, name)) for name in "abcd"]
                self.assertEqual(then_turn(one, other), turn_moving("abcd", images))

    def test_back_turn(self):
        self.assertEqual(back_turn(ROUND), (("a", "c"), ("b", "a"), ("c", "b")))
        for turn in TURNS + ALL_OF_FOUR:
            self.assertIs(is_turn(back_turn(turn)), True)
            self.assertEqual(then_turn(turn, back_turn(turn)), ())

    def test_apart_names(self):
        self.assertEqual(apart_names(ROUND, ROUND), [])
        self.assertEqual(apart_names((), SWAP), ["a", "b"])
        self.assertEqual(apart_names(SWAP, ROUND), ["b", "c"])
        self.assertEqual(apart_names(TWO_ROUNDS, ()), ["a", "b", "c", "d1", "e"])
        for one in ALL_OF_FOUR:
            for other in ALL_OF_FOUR:
                self.assertEqual(apart_names(one, other), [name for name in "abcd" if led(one, name) != led(other, name)])


class Rounds(unittest.TestCase):
    def test_rounds_of(self):
        self.assertEqual(rounds_of(()), [])
        self.assertEqual(rounds_of(SWAP), [("a", "b")])
        self.assertEqual(rounds_of((("a", "c"), ("b", "a"), ("c", "b"))), [("a", "c", "b")])
        self.assertEqual(rounds_of(TWO_ROUNDS), [("a", "c"), ("b", "d1", "e")])

    def test_rounds_of_all(self):
        chance = drawn(2)
        for turn in ALL_OF_FOUR + [some_turn(chance, list("abcdefghij")) for _ in range(100)]:
            rounds = rounds_of(turn)
            self.assertEqual(rounds, sorted(rounds))
            self.assertEqual(sorted(sum(rounds, ())), [name for name, _ in turn])
            for ring in rounds:
                self.assertIs(type(ring), tuple)
                self.assertEqual(ring[0], min(ring))
                self.assertEqual([led(turn, name) for name in ring], list(ring[1:] + ring[:1]))

    def test_swaps_of(self):
        self.assertEqual(swaps_of(()), [])
        self.assertEqual([set(swap) for swap in swaps_of(SWAP)], [{"a", "b"}])
        chance = drawn(3)
        for turn in TURNS + ALL_OF_FOUR + [some_turn(chance, list("abcdefghij")) for _ in range(100)]:
            swaps = swaps_of(turn)
            self.assertEqual(turn_of(swaps), turn)
            self.assertEqual(len(swaps), len(turn) - len(rounds_of(turn)))
            for swap in swaps:
                self.assertIs(type(swap), tuple)
                self.assertNotEqual(swap[0], swap[1])


class Eased(unittest.TestCase):
    def test_by_hand(self):
        for turn, barred, wanted in [
            ((), "a", ()), (SWAP, "", SWAP), (SWAP, "a", SWAP), (SWAP, "ab", ()), (SWAP, "c", SWAP), (ROUND, "c", ROUND),
            (ROUND, "bc", SWAP), (ROUND, "ab", (("a", "c"), ("c", "a"))), (ROUND, "abc", ()),
            (TWO_ROUNDS, "ac", (("b", "d1"), ("d1", "e"), ("e", "b"))),
        ]:
            self.assertEqual(eased(turn, list(barred)), wanted, (turn, barred))

    def test_all_of_four(self):
        for turn in ALL_OF_FOUR:
            for many in range(5):
                for barred in itertools.combinations("abcd", many):
                    told = eased(turn, barred)
                    right = [one for one in ALL_OF_FOUR if all(led(one, a) == led(turn, a) for a in "abcd" if a not in barred)]
                    self.assertIn(told, right)
                    self.assertEqual(len(told), min(len(one) for one in right), (turn, barred))


class Refusals(unittest.TestCase):
    def test_no_turn(self):
        for thing in NO_TURNS + [thing for thing in many_odd() if thing != () or thing == []]:
            for call in (back_turn, rounds_of, swaps_of):
                with self.assertRaises(NoTurn):
                    call(thing)
            for call in (then_turn, apart_names):
                for pair in [(thing, ()), ((), thing), (thing, thing), (thing, None)]:
                    with self.assertRaises(NoTurn):
                        call(*pair)

    def test_no_turn_ahead_of_no_name(self):
        for thing in NO_NAMES:
            with self.assertRaises(NoName):
                turned_name(ROUND, thing)
            with self.assertRaises(NoTurn):
                turned_name([], thing)
        with self.assertRaises(NoTurn):
            turned_name((("a", "b"),), "a")


class ToldListsAreTheAskersOwn(unittest.TestCase):
    def test_lists_changed(self):
        for call, handed in [(rounds_of, (TWO_ROUNDS,)), (swaps_of, (TWO_ROUNDS,)), (apart_names, (ROUND, TWO_ROUNDS))]:
            first = call(*handed)
            self.assertIs(type(first), list)
            kept = list(first)
            first.append("more")
            first[0] = None
            self.assertEqual(call(*handed), kept)


if __name__ == "__main__":
    unittest.main()
