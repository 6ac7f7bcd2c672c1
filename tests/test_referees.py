"""[4.1], and of [4.2] paid."""

import random
import unittest
from fractions import Fraction

from tellsless.errors import NoTest
from tellsless.houses import House, begun, hopeful, made_house, node_at, paths, weights_at
from tellsless.plans import led, passing
from tellsless.ratios import is_fraction
from tellsless.referees import is_test, paid
from tests.things import (
    CLEAR, COIN, HALF, NOUGHT, ONE, chain, even, made_up_house, made_up_test, nested, pair, spoiled, strange,
)

EVEN = (HALF, HALF)
GUESS = (EVEN, ((ONE, (((ONE, NOUGHT), ()), ((NOUGHT, ONE), ()))),))
NOTHING = House(2, ())
ZERO = (NOUGHT, NOUGHT)
# Behind the first answer two questions.
DEEP = House(2, ((
    ((0,), (HALF, (2, 3)), (
        (((0,), ((1, 4), (2, 3)), ()), ((1,), ((1, 4), NOUGHT), ())),
        (((0,), (NOUGHT, (1, 3)), ()), ((1,), (HALF, (1, 3)), ())),
    )),
    ((1,), (HALF, (1, 3)), ()),
),))


def coin_test(prior=EVEN, chance=ONE, one=(ONE, NOUGHT), other=(NOUGHT, ONE)):
    return (prior, ((chance, ((one, ()), (other, ()))),))


def reckoned(house, test):
    """What is paid in the mean, answer by answer, as [4.2] tells it."""
    prior, table = test
    mean = Fraction(0)
    for path in paths(house)[1:]:
        way, behind = Fraction(1), table
        for question, answer in path:
            chance, rows = behind[question]
            way *= Fraction(*chance)
            pays, behind = rows[answer]
        for world, weight in enumerate(weights_at(house, path)):
            mean += way * Fraction(*prior[world]) * Fraction(*weight) * Fraction(*pays[world])
    return pair(mean)


class Judged(unittest.TestCase):
    def wrong(self, house, thing):
        self.assertIs(is_test(house, thing), False, thing)
        with self.assertRaises(NoTest):
            paid(house, thing)

    def right(self, house, thing):
        self.assertIs(is_test(house, thing), True, thing)
        self.assertEqual(paid(house, thing), reckoned(house, thing))

    def test_right_ones(self):
        self.right(COIN, GUESS)
        self.right(CLEAR, GUESS)
        self.right(NOTHING, (EVEN, ()))
        self.right(House(1, ()), ((ONE,), ()))
        self.right(House(5, ()), ((NOUGHT, NOUGHT, ONE, NOUGHT, NOUGHT), ()))
        self.right(COIN, coin_test((ONE, NOUGHT)))
        self.right(COIN, coin_test(((1, 3), (2, 3))))

    def test_priors(self):
        for prior in ((), (ONE,), (HALF, HALF, NOUGHT), (ONE, ONE), (HALF, (1, 3)), (NOUGHT, NOUGHT), ((3, 2), (-1, 2)),
                      ((2, 1), (-1, 1)), (HALF, (2, 4)), (ONE, (0, 2)), (True, NOUGHT), ((True, 1), NOUGHT),
                      ((1, True), NOUGHT), (ONE, (False, 1)), (1, 0), [HALF, HALF], ([1, 2], [1, 2]), "ab", None,
                      (HALF, None), ((1,), NOUGHT), ((1, 1, 1), NOUGHT), ((-1, -1), NOUGHT)):
            self.wrong(COIN, coin_test(prior))
            self.wrong(NOTHING, (prior, ()))

    def test_chances(self):
        for chance in (ONE, NOUGHT, HALF, (1, 10 ** 29)):
            self.right(COIN, coin_test(chance=chance))
        for chance in ((3, 2), (-1, 2), (2, 2), (0, 2), (2, 1), True, 1, (True, 1), (1, True), (False, 1), [1, 2], None, (),
                       (1,), "12"):
            self.wrong(COIN, coin_test(chance=chance))

    def test_chances_of_one_node_together(self):
        two = House(2, COIN.tree * 2)
        rows = GUESS[1][0][1]
        for first, second, is_right in ((HALF, HALF, True), (HALF, (1, 3), True), (ONE, NOUGHT, True), (NOUGHT, NOUGHT, True),
                                        (HALF, (2, 3), False), (ONE, ONE, False), (ONE, (1, 10 ** 29), False),
                                        ((10 ** 29 - 1, 10 ** 29), (1, 10 ** 29), True)):
            thing = (EVEN, ((first, rows), (second, rows)))
            (self.right if is_right else self.wrong)(two, thing)
        # Also at a node behind, whatever the chance of the question ahead.
        for first, second, is_right in ((HALF, HALF, True), (HALF, (2, 3), False)):
            behind = ((first, rows), (second, rows))
            for chance in (NOUGHT, HALF, ONE):
                thing = (EVEN, ((chance, ((ZERO, behind), (ZERO, ()))),))
                (self.right if is_right else self.wrong)(DEEP, thing)

    def test_pays(self):
        for pay in ((-1, 2), (-7, 1), (10 ** 29, 1), (-(10 ** 29), 10 ** 29 - 1), (5, 3)):
            self.right(COIN, coin_test(one=(pay, ONE)))
            self.right(COIN, coin_test(other=(NOUGHT, pay)))
        for pay in ((2, 4), (0, 2), (-2, 2), (1, 0), (0, 0), (1, -2), (True, 1), (1, True), (False, 1), 1, True, None, [1, 2],
                    (), (1,), (1, 1, 1), "12", b"12"):
            self.wrong(COIN, coin_test(one=(pay, ONE)))
            self.wrong(COIN, coin_test(other=(NOUGHT, pay)))
        for pays in ((), (ONE,), (ONE, ONE, ONE), [ONE, ONE], None, ONE):
            self.wrong(COIN, coin_test(one=pays))

    def test_rows_and_tables(self):
        row = (ZERO, ())
        for many in range(5):
            table = ((ONE, (row,) * many),)
            (self.right if many == 2 else self.wrong)(COIN, (EVEN, table))
            (self.right if many == 1 else self.wrong)(COIN, (EVEN, ((NOUGHT, (row, row)),) * many))
            behind = ((NOUGHT, (row, row)),) * many
            (self.right if many == 2 else self.wrong)(DEEP, (EVEN, ((ONE, ((ZERO, behind), row)),)))
            self.wrong(DEEP, (EVEN, ((ONE, ((ZERO, behind), (ZERO, behind or (0,)))),)))
        self.wrong(NOTHING, GUESS)
        self.wrong(COIN, (EVEN, ()))
        self.wrong(COIN, (EVEN,))
        self.wrong(COIN, GUESS + ((),))
        self.wrong(COIN, ())

    def test_each_way_to_spoil_one(self):
        dice = random.Random(2)
        for house in (COIN, DEEP, NOTHING, House(1, even_tree()), House(3, ())):
            for _ in range(5):
                test = made_up_test(dice, house)
                self.right(house, test)
                for thing in spoiled(test, ()):
                    self.wrong(house, thing)

    def test_things_of_all_kinds(self):
        for thing in strange():
            for test in (thing, (EVEN, thing), (thing, GUESS[1]), (EVEN, (thing,)), (EVEN, ((ONE, thing),)),
                         (EVEN, ((ONE, (thing, thing)),)), coin_test(chance=thing), coin_test(one=thing),
                         coin_test(other=(ONE, thing)), coin_test(prior=(ONE, thing)), coin_test(one=((1, thing), ONE)),
                         (EVEN, ((ONE, ((ZERO, thing), (ZERO, ()))),))):
                # 7 is the bottom of a right pay.
                if thing != 7 or test != coin_test(one=((1, 7), ONE)):
                    if not (isinstance(thing, int) and thing == 10 ** 29 and test == coin_test(one=((1, thing), ONE))):
                        self.wrong(COIN, test)

    def test_deep_things(self):
        long = House(1, chain(8))
        for _ in range(4):
            long = begun(long)
        for deep in (10, 117, 118, 119, 120):
            for inner in ((), 5, None):
                self.wrong(long, nested(deep, inner))
                self.wrong(long, ((ONE,), nested(deep - 1, inner)))
        table = ()
        for rounds in range(1, 28):
            table = ((ONE, (((ONE,), table),)),)
            if rounds == 12:
                self.right(long, ((ONE,), table))
            else:
                self.wrong(long, ((ONE,), table))


def even_tree():
    return (even(2), even(3, ((((), ((1, 3),), ()),),)))


class Paid(unittest.TestCase):
    def test_paid_of_e03(self):
        self.assertEqual(paid(CLEAR, GUESS), (1, 1))
        self.assertEqual(paid(COIN, GUESS), (3, 4))

    def test_pays_below_nought(self):
        test = coin_test(one=(ONE, (-1, 1)), other=((-1, 1), ONE))
        self.assertEqual(paid(CLEAR, test), ONE)
        self.assertEqual(paid(COIN, test), HALF)
        self.assertEqual(paid(COIN, coin_test(one=((-2, 1), (-2, 1)), other=((-2, 1), (-2, 1)))), (-2, 1))
        self.assertEqual(paid(COIN, coin_test(one=(ONE, (-3, 1)), other=ZERO)), NOUGHT)

    def test_questions_that_are_not_asked(self):
        self.assertEqual(paid(COIN, coin_test(chance=NOUGHT)), NOUGHT)
        self.assertEqual(paid(COIN, coin_test(chance=(1, 3))), (1, 4))
        two = House(2, COIN.tree + CLEAR.tree)
        rows = GUESS[1][0][1]
        self.assertEqual(paid(two, (EVEN, ((NOUGHT, rows), (ONE, rows)))), ONE)
        self.assertEqual(paid(two, (EVEN, ((ONE, rows), (NOUGHT, rows)))), (3, 4))
        self.assertEqual(paid(two, (EVEN, ((HALF, rows), ((1, 4), rows)))), (5, 8))

    def test_worlds_that_never_are(self):
        great = (10 ** 29, 1)
        self.assertEqual(paid(COIN, coin_test((NOUGHT, ONE), one=(great, ONE), other=(great, NOUGHT))), (1, 4))
        self.assertEqual(paid(COIN, coin_test((ONE, NOUGHT), one=(ONE, great), other=(NOUGHT, great))), (3, 4))

    def test_hopeless_answers(self):
        never = House(2, ((
            ((0,), (ONE, ONE), ()),
            ((1,), ZERO, ((((0,), ZERO, ()),),)),
        ),))
        high = ((100, 1), (100, 1))
        self.assertEqual(paid(never, (EVEN, ((ONE, ((ZERO, ()), (high, ((ONE, ((high, ()),)),)))),))), NOUGHT)

    def test_without_questions(self):
        for worlds in range(1, 6):
            prior = ((1, worlds),) * worlds
            self.assertEqual(paid(House(worlds, ()), (prior, ())), NOUGHT)

    def test_rounds_ahead_are_paid_too(self):
        rows = (((ONE, ONE), ()), ((ONE, ONE), ()))
        behind = ((HALF, rows), ((1, 3), rows))
        test = (EVEN, ((HALF, ((((2, 1), NOUGHT), behind), (ZERO, ()))),))
        # 1/2 (1/2 * 1/2 * 2 + (1/2 + 1/3) (1/2 * 1/2 + 1/2 * 2/3))
        self.assertEqual(paid(DEEP, test), (71, 144))
        self.assertEqual(reckoned(DEEP, test), (71, 144))

    def test_made_up_tests(self):
        for seed in range(300):
            dice = random.Random(seed)
            house = made_up_house(dice, 1 + seed % 5, deep=4, great=seed % 6 == 0)
            test = made_up_test(dice, house)
            self.assertIs(is_test(house, test), True)
            found = paid(house, test)
            self.assertTrue(is_fraction(found))
            self.assertEqual(found, reckoned(house, test))

    def test_houses_that_functions_made(self):
        dice = random.Random(6)
        for _ in range(30):
            house = made_up_house(dice, 2, deep=3)
            for made in (begun(house), hopeful(house), led(house, house, passing(house))):
                test = made_up_test(dice, made)
                self.assertEqual(paid(made, test), reckoned(made, test))
        wide = made_house(1, (even(3000),))
        rows = tuple((((number, 1),), ()) for number in range(3000))
        self.assertEqual(paid(wide, ((ONE,), ((ONE, rows),))), (2999, 2))

    def test_great_numbers(self):
        wide = made_house(1, (even(900),))
        rows = tuple((((1, 10 ** 29 + number),), ()) for number in range(900))
        test = ((ONE,), ((ONE, rows),))
        self.assertEqual(paid(wide, test), reckoned(wide, test))

    def test_arguments_stay_and_equal_calls_give_equal_answers(self):
        rows = []
        for dice in (random.Random(4), random.Random(4)):
            house = made_up_house(dice, 3, deep=3)
            rows.append((house, made_up_test(dice, house)))
        self.assertEqual(paid(*rows[0]), paid(*rows[1]))
        self.assertEqual(*rows)
        self.assertEqual(node_at(rows[0][0], ()), rows[1][0].tree)


if __name__ == "__main__":
    unittest.main()
