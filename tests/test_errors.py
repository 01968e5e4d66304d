"""Section 19 and section 2: the errors and what they keep."""

import unittest

from sumshelves import errors
from tests.plain import any_values

NAMES = """SumError BadItem BadHouse BadLot BadFamily BadFraction BadRates BadPrices BadNumber BadStore BadPiece
BadContent BadName BadStrength BadPieces Full Few Held Many NoPiece Bare Called Out BadPlan NoRates Wide BadWeights
Unborne BadAsks TwoPieces BadTolls NotBorne NoHelp Same OtherItems OtherShape OtherSpan BadCounts Quarrel BadOffers
BadChoice BadWish BadWishes NoAsk Down Up Refused NothingToUndo NothingToRedo NoTrial BadJournal BadLine""".split()


class Errors(unittest.TestCase):
    def test_all_are_there_and_defined_there(self):
        defined = [name for name, value in vars(errors).items() if isinstance(value, type)]
        self.assertEqual(sorted(defined), sorted(NAMES))
        for name in NAMES:
            self.assertEqual(getattr(errors, name).__module__, "sumshelves.errors")
            self.assertEqual(getattr(errors, name).__name__, name)

    def test_bases(self):
        self.assertEqual(errors.SumError.__bases__, (ValueError,))
        for name in NAMES[1:]:
            self.assertEqual(getattr(errors, name).__bases__, (errors.SumError,))

    def test_each_keeps_any_value(self):
        for name in NAMES:
            kind = getattr(errors, name)
            for value in any_values():
                self.assertIs(kind(value).value, value)

    def test_one_argument(self):
        for name in NAMES:
            self.assertRaises(TypeError, getattr(errors, name))
            self.assertRaises(TypeError, getattr(errors, name), 1, 2)

    def test_each_is_raised_and_caught(self):
        for name in NAMES:
            for caught in (getattr(errors, name), errors.SumError, ValueError):
                with self.assertRaises(caught) as told:
                    raise getattr(errors, name)((name, [1]))
                self.assertEqual(told.exception.value, (name, [1]))


if __name__ == "__main__":
    unittest.main()
