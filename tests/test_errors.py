"""rankedchains.errors: the classes, what they stand under, their fields."""

import unittest

from rankedchains import errors

UNDER = {
    "ChainError": ValueError,
    "BadRow": errors.ChainError,
    "BadPolynomial": errors.ChainError,
    "BadRanking": errors.ChainError,
    "BadChain": errors.ChainError,
    "BadData": errors.ChainError,
    "BadJet": errors.ChainError,
    "BadPaper": errors.ChainError,
    "Twice": errors.ChainError,
    "OutOfPlace": errors.ChainError,
    "TooGreat": errors.ChainError,
    "MissError": LookupError,
    "NoUnknown": errors.MissError,
    "NoEquation": errors.MissError,
    "NoCase": errors.MissError,
    "Nothing": errors.MissError,
    "CaseError": RuntimeError,
    "Contradicted": errors.CaseError,
    "Knotted": errors.CaseError,
}
PLACED = (
    (errors.BadPolynomial, "number"),
    (errors.BadRanking, "place"),
    (errors.BadChain, "place"),
    (errors.BadData, "place"),
    (errors.BadJet, "place"),
    (errors.BadPaper, "place"),
)
DUE = (
    (errors.NoUnknown, "name"),
    (errors.NoEquation, "number"),
    (errors.NoCase, "number"),
    (errors.Contradicted, "number"),
    (errors.Knotted, "number"),
)
OF_A_TEXT = (errors.Twice, errors.OutOfPlace, errors.TooGreat, errors.Nothing)


class Classes(unittest.TestCase):
    def test_each_stands_straight_under_one(self):
        for name, above in UNDER.items():
            self.assertEqual(getattr(errors, name).__bases__, (above,), name)
            self.assertEqual(getattr(errors, name).__module__, "rankedchains.errors")

    def test_there_are_no_others(self):
        found = {name for name, thing in vars(errors).items() if isinstance(thing, type)}
        self.assertEqual(found, set(UNDER))

    def test_none_stands_under_another_one_else(self):
        for name in UNDER:
            for other, above in UNDER.items():
                wanted = name == other or UNDER[other] is getattr(errors, name)
                self.assertEqual(issubclass(getattr(errors, other), getattr(errors, name)), wanted)
        self.assertFalse(issubclass(errors.MissError, ValueError))
        self.assertFalse(issubclass(errors.CaseError, (ValueError, LookupError)))


class Fields(unittest.TestCase):
    def test_bad_row(self):
        for made in (errors.BadRow(3, 7), errors.BadRow(row=3, word=7), errors.BadRow(3, word=7)):
            self.assertEqual((made.row, made.word), (3, 7))
        with self.assertRaises(TypeError):
            errors.BadRow()
        with self.assertRaises(TypeError):
            errors.BadRow(1)

    def test_fields_that_may_be_left_out(self):
        for kind, field in PLACED:
            self.assertIsNone(getattr(kind(), field))
            for worth in (None, 0, 4, "axes", ("row", 3)):
                self.assertEqual(getattr(kind(worth), field), worth)
                self.assertEqual(getattr(kind(**{field: worth}), field), worth)

    def test_fields_that_are_due(self):
        for kind, field in DUE:
            thing = [1]
            self.assertIs(getattr(kind(thing), field), thing)
            self.assertEqual(getattr(kind(**{field: 5}), field), 5)
            with self.assertRaises(TypeError):
                kind()

    def test_made_of_a_text(self):
        for kind in OF_A_TEXT:
            self.assertEqual(str(kind("what it says")), "what it says")

    def test_each_may_be_raised_and_shown(self):
        for kind, _ in PLACED:
            with self.assertRaises(errors.ChainError) as caught:
                raise kind(1)
            self.assertIsInstance(str(caught.exception), str)
        for kind, _ in DUE:
            with self.assertRaises((errors.MissError, errors.CaseError)):
                raise kind(None)


if __name__ == "__main__":
    unittest.main()
