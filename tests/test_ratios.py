"""[0.2]: integers and fractions, as the package judges them and reckons with them."""

import unittest

from tellsless.ratios import (
    added, are_chances, are_fractions, are_shares, common_bottom, divided, greatest_of, is_chance, is_fraction, is_less,
    is_number, is_prior, is_share, less, multiplied, reduced, scaled_weights, times_whole, total, total_weights,
)
from tests.things import HALF, NOUGHT, ONE, chance, strange


class Judged(unittest.TestCase):
    def test_fractions(self):
        for thing in (NOUGHT, ONE, HALF, (-1, 2), (5, 1), (-7, 3), (10 ** 29, 10 ** 29 - 1)):
            self.assertTrue(is_fraction(thing), thing)
        for thing in strange() + [(0, 2), (2, 2), (2, 4), (1, 0), (0, 0), (1, -1), (0, -1), (1, -2), [1, 2], (1,), (1, 2, 3),
                                  (True, 1), (1, True), (1, None), ("1", 2)]:
            self.assertIs(is_fraction(thing), False)
            self.assertIs(is_chance(thing), False)
            self.assertIs(is_share(thing), False)

    def test_chances_and_shares(self):
        self.assertEqual([is_chance(thing) for thing in (NOUGHT, HALF, ONE, (-1, 2), (3, 2))], [True, True, True, False, False])
        self.assertEqual([is_share(thing) for thing in (NOUGHT, HALF, ONE, (-1, 2), (3, 2))], [False, True, True, False, False])
        self.assertTrue(are_shares((HALF, (1, 3), (1, 6))))
        self.assertTrue(are_shares([ONE]))
        for things in ((), (HALF,), (HALF, HALF, HALF), (ONE, NOUGHT), ((3, 2), (-1, 2)), (ONE, None)):
            self.assertFalse(are_shares(things))

    def test_tuples(self):
        rows = [
            # As many fractions, chances, a prior of two worlds.
            ((HALF, HALF), True, True, True),
            ((NOUGHT, ONE), True, True, True),
            ((HALF, NOUGHT), True, True, False),
            ((HALF, ONE), True, True, False),
            (((3, 2), (-1, 2)), True, False, False),
            ((HALF, (2, 4)), False, False, False),
            ([HALF, HALF], False, False, False),
            ((ONE,), False, False, False),
            ((HALF, HALF, NOUGHT), False, False, False),
        ]
        for thing, *flags in rows + [(thing, False, False, False) for thing in strange()]:
            self.assertEqual([are_fractions(thing, 2), are_chances(thing, 2), is_prior(thing, 2)], flags)

    def test_integers(self):
        self.assertTrue(is_number(1, 1, 5))
        self.assertTrue(is_number(5, 1, 5))
        for thing in [thing for thing in strange() if thing is not True and not isinstance(thing, int)] + [True, False, 0, 6]:
            self.assertFalse(is_number(thing, 1, 5))


class Reckoned(unittest.TestCase):
    def test_lowest_terms(self):
        self.assertEqual(reduced(6, 4), (3, 2))
        self.assertEqual(reduced(0, 7), NOUGHT)
        self.assertEqual(reduced(-4, 2), (-2, 1))
        self.assertEqual(added((1, 6), (1, 3)), HALF)
        self.assertEqual(added((-1, 2), HALF), NOUGHT)
        self.assertEqual(multiplied((2, 3), (3, 4)), HALF)
        self.assertEqual(divided((1, 3), (2, 3)), HALF)
        self.assertEqual(total([]), NOUGHT)
        self.assertEqual(total([HALF, (1, 3), (1, 6)]), ONE)
        for many in range(1, 20):
            self.assertEqual(total(((1, 3),) * many), reduced(many, 3))
            self.assertEqual(total([(number, 1) for number in range(many)]), (many * (many - 1) // 2, 1))

    def test_signs_and_order(self):
        self.assertEqual(less((2, 3)), (-2, 3))
        self.assertEqual(less(NOUGHT), NOUGHT)
        self.assertIs(is_less((1, 3), HALF), True)
        self.assertIs(is_less((-1, 2), (-1, 3)), True)
        self.assertIs(is_less(HALF, HALF), False)
        self.assertIs(is_less(NOUGHT, (-1, 10 ** 29)), False)
        self.assertEqual(greatest_of([HALF, (2, 3), NOUGHT, (2, 3)]), 1)
        self.assertEqual(greatest_of([(-1, 2)]), 0)

    def test_whole_numbers(self):
        self.assertEqual(common_bottom([]), 1)
        self.assertEqual(common_bottom([(1, 6), (3, 4), ONE]), 12)
        self.assertEqual(times_whole((3, 4), 12), 9)
        self.assertEqual(times_whole((-1, 6), 12), -2)

    def test_great_sums(self):
        rows = [(1, 10 ** 29 + number) for number in range(300)]
        rows = [reduced(top, bottom) for top, bottom in rows]
        self.assertEqual(chance(total(rows)), sum(map(chance, rows)))
        self.assertEqual(total(rows + [less(row) for row in rows]), NOUGHT)

    def test_weights(self):
        self.assertEqual(scaled_weights(HALF, (ONE, HALF, NOUGHT)), (HALF, (1, 4), NOUGHT))
        self.assertEqual(total_weights([], 3), (NOUGHT,) * 3)
        self.assertEqual(total_weights([(ONE, HALF)], 2), (ONE, HALF))
        self.assertEqual(total_weights([(HALF, NOUGHT), ((1, 3), ONE), ((1, 6), NOUGHT)], 2), (ONE, ONE))


if __name__ == "__main__":
    unittest.main()
