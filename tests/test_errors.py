"""The bounds, and the kinds of refusals."""

import unittest

from shutnames import bounds, errors

WORDED = ["NoName", "NoTurn", "NoTerm", "HasHoles", "NoFilling", "NoFacts", "NoAsk", "NotApart", "NoRule", "NoWeighing",
          "NoPaper", "NoLine", "NoUndo"]
FIELDED = {"NoPlace": ["place"], "BadStep": ["at"], "Clash": ["lot"], "NotClosed": ["name", "hole"], "TooLong": ["most"],
           "NotGood": ["verdict"], "NoText": ["at"]}
WORTHS = [None, True, 0, -3, 10 ** 20, "", "word", (), (0, 1), [1], {"a": 1}, ("rises", 0, {"X": 1})]


class Bounds(unittest.TestCase):
    def test_bounds(self):
        self.assertEqual((bounds.MOST_USES, bounds.MOST_RULES), (200, 6))


class Refusals(unittest.TestCase):
    def test_families(self):
        self.assertEqual(errors.ShutError.__bases__, (ValueError,))
        for name in WORDED + list(FIELDED):
            self.assertEqual(getattr(errors, name).__bases__, (errors.ShutError,), name)

    def test_each_is_caught_by_its_own_name_alone(self):
        for name in WORDED + list(FIELDED):
            worths = [1] * len(FIELDED.get(name, []))
            refusal = getattr(errors, name)(*worths)
            for other in WORDED + list(FIELDED) + ["Missing"]:
                self.assertEqual(isinstance(refusal, getattr(errors, other)), name == other)
            self.assertIsInstance(refusal, errors.ShutError)
            self.assertIsInstance(refusal, ValueError)

    def test_made_of_nothing_or_a_text(self):
        for name in WORDED + ["ShutError"]:
            made = getattr(errors, name)
            self.assertIsInstance(made(), made)
            self.assertEqual(str(made("why so")), "why so")

    def test_fields_by_place_and_by_name(self):
        for name, fields in FIELDED.items():
            made = getattr(errors, name)
            for worth in WORTHS:
                worths = [worth, "second"][:len(fields)]
                for refusal in (made(*worths), made(**dict(zip(fields, worths)))):
                    self.assertEqual([getattr(refusal, field) for field in fields], worths)
                    self.assertIsInstance(str(refusal), str)

    def test_fields_swapped_by_name(self):
        refusal = errors.NotClosed(hole="X", name="a")
        self.assertEqual((refusal.name, refusal.hole), ("a", "X"))

    def test_missing(self):
        self.assertEqual(errors.Missing.__bases__, (KeyError,))
        for worth in WORTHS:
            for refusal in (errors.Missing(worth), errors.Missing(number=worth)):
                self.assertEqual(refusal.number, worth)
                self.assertIsInstance(refusal, KeyError)
                self.assertNotIsInstance(refusal, errors.ShutError)
                self.assertNotIsInstance(refusal, ValueError)

    def test_raised_and_caught(self):
        with self.assertRaises(ValueError) as caught:
            raise errors.NoPlace((0, 1))
        self.assertEqual(caught.exception.place, (0, 1))
        with self.assertRaises(KeyError) as caught:
            raise errors.Missing(7)
        self.assertEqual(caught.exception.number, 7)


if __name__ == "__main__":
    unittest.main()
