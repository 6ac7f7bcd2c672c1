"""[9.3]: the most that is paid to who is bound by two houses."""

import random
import unittest
from fractions import Fraction
from unittest.mock import patch

from tellsless import binding
from tellsless.agreeing import Agreement
from tellsless.bounds import most_paid
from tellsless.errors import NotAlike, NoTest
from tellsless.houses import House, begun, is_shaped, made_house
from tellsless.plans import is_between
from tellsless.prices import are_prices, best_paid
from tellsless.ratios import is_fraction
from tellsless.referees import is_test, paid
from tellsless.rooms import beside, tossed
from tellsless.tearing import torn
from tests.things import (
    CLEAR, COIN, HALF, NOUGHT, ONE, chance, even, full_house, made_up_house, made_up_test, pair, split, spoiled, strange,
    teller,
)

EVEN = (HALF, HALF)
GUESS = (EVEN, ((ONE, (((ONE, NOUGHT), ()), ((NOUGHT, ONE), ()))),))
NOTHING = House(2, ())
NEVER = ((((0,), (NOUGHT, NOUGHT), ()), ((1,), (NOUGHT, NOUGHT), ())),)
# One of them surely is right if it tells world 0, the other one if it tells world 1.
ONLY_FIRST = House(2, ((((0,), (HALF, NOUGHT), ()), ((1,), (HALF, ONE), ())),))
ONLY_SECOND = House(2, ((((0,), (ONE, HALF), ()), ((1,), (NOUGHT, HALF), ())),))


def products(test):
    """For each answer, in reading order, and each world: the product of the chances, the prior and the pay."""
    prior, table = test
    found = []

    def walk(table, way):
        for often, rows in table:
            for pays, behind in rows:
                found.append([way * chance(often) * chance(p) * chance(pay) for p, pay in zip(prior, pays)])
                walk(behind, way * chance(often))

    walk(table, Fraction(1))
    return found


def sum_of(other, found):
    return sum(chance(found[((), number, ())]) for number in range(len(other.tree)))


def full_table(dice, node, worlds):
    """The table of a test at a node by chance, that asks everything."""
    often = split(dice, Fraction(1), len(node), True) if node else []
    return tuple(
        (pair(part), tuple(
            (tuple(pair(Fraction(dice.randrange(-9, 10), dice.randrange(1, 7))) for _ in range(worlds)),
             full_table(dice, answer[2], worlds))
            for answer in question
        ))
        for part, question in zip(often, node)
    )


def full_test(dice, house):
    """A test by chance that asks everything."""
    return (tuple(map(pair, split(dice, Fraction(1), house.worlds))), full_table(dice, house.tree, house.worlds))


class MostPaid(unittest.TestCase):
    def check(self, first, second, other, test):
        """All that [9.3] tells of the tuple; what is paid most."""
        found = most_paid(first, second, other, test)
        self.assertIs(type(found), tuple)
        pay, house, one_between, two_between, one, two = found
        self.assertTrue(is_fraction(pay))
        self.assertIs(type(house), House)
        self.assertTrue(is_shaped(house, other))
        self.assertTrue(is_between(first, house, one_between))
        self.assertTrue(is_between(second, house, two_between))
        self.assertEqual(paid(house, test), pay)
        for holder, paper in ((first, one), (second, two)):
            self.assertIs(type(paper), tuple)
            self.assertEqual(len(paper), 2)
            self.assertTrue(is_test(other, paper[0]))
            self.assertTrue(are_prices(holder, other, paper[0], paper[1]))
        sums = [
            [a + b for a, b in zip(row, inner)]
            for row, inner in zip(products(one[0]), products(two[0]))
        ]
        self.assertEqual(sums, products(test))
        self.assertEqual(sum_of(other, one[1]) + sum_of(other, two[1]), chance(pay))
        for holder in (first, second):
            self.assertLessEqual(chance(pay), chance(best_paid(holder, other, test)))
        return pay

    def test_who_is_bound_by_two_houses_is_paid_less_than_by_each(self):
        self.assertEqual(best_paid(ONLY_FIRST, CLEAR, GUESS), (3, 4))
        self.assertEqual(best_paid(ONLY_SECOND, CLEAR, GUESS), (3, 4))
        self.assertEqual(self.check(ONLY_FIRST, ONLY_SECOND, CLEAR, GUESS), (2, 3))
        self.assertEqual(self.check(ONLY_SECOND, ONLY_FIRST, CLEAR, GUESS), (2, 3))

    def test_one_house_binds_if_it_tells_less(self):
        self.assertEqual(self.check(COIN, CLEAR, CLEAR, GUESS), (3, 4))
        self.assertEqual(self.check(CLEAR, COIN, CLEAR, GUESS), (3, 4))
        self.assertEqual(self.check(CLEAR, CLEAR, COIN, GUESS), ONE)
        self.assertEqual(self.check(CLEAR, NOTHING, CLEAR, GUESS), HALF)
        self.assertEqual(self.check(NOTHING, NOTHING, CLEAR, GUESS), HALF)
        self.assertEqual(self.check(COIN, torn(COIN, 1), CLEAR, GUESS), (3, 4))
        self.assertEqual(self.check(torn(COIN, 1), beside(COIN, COIN), CLEAR, GUESS), best_paid(beside(COIN, COIN), CLEAR, GUESS))

    def test_houses_without_questions(self):
        self.assertEqual(self.check(COIN, CLEAR, NOTHING, (EVEN, ())), NOUGHT)
        self.assertEqual(self.check(NOTHING, NOTHING, NOTHING, ((ONE, NOUGHT), ())), NOUGHT)
        self.assertEqual(most_paid(COIN, COIN, NOTHING, (EVEN, ()))[1:4], (NOTHING, ((ONE, ()),), ((ONE, ()),)))

    def test_worlds_that_never_are(self):
        # World 1 is never drawn, but both have to tell the same there, too: or else all would be told in world 0.
        sure = ((ONE, NOUGHT), ((ONE, (((ONE, NOUGHT), ()), ((NOUGHT, ONE), ()))),))
        self.assertEqual(self.check(ONLY_FIRST, ONLY_SECOND, CLEAR, sure), ONE)
        three = House(3, ((
            ((0,), (ONE, ONE, NOUGHT), ()), ((1,), (NOUGHT, NOUGHT, ONE), ()),
        ),))
        other = House(3, ((
            ((0,), (ONE, NOUGHT, ONE), ()), ((1,), (NOUGHT, ONE, NOUGHT), ()),
        ),))
        # What both make tells nothing: of worlds 0 and 1 one tells nothing, and world 2 binds 0 to 1 by the other one.
        test = ((HALF, HALF, NOUGHT), ((ONE, (((ONE, NOUGHT, NOUGHT), ()), ((NOUGHT, ONE, NOUGHT), ()))),))
        self.assertEqual(self.check(three, other, three, test), HALF)
        test = ((NOUGHT, HALF, HALF), ((ONE, (((ONE, ONE, NOUGHT), ()), ((NOUGHT, NOUGHT, ONE), ()))),))
        self.assertEqual(self.check(three, other, three, test), HALF)
        self.assertEqual(best_paid(three, three, test), ONE)

    def test_questions_that_are_never_asked(self):
        twice = House(2, CLEAR.tree + CLEAR.tree)
        rows = GUESS[1][0][1]
        for often, pay in (((NOUGHT, ONE), (2, 3)), ((ONE, NOUGHT), (2, 3)), ((NOUGHT, NOUGHT), NOUGHT), ((HALF, HALF), (2, 3)),
                           (((1, 3), (1, 3)), (4, 9))):
            test = (EVEN, tuple((part, rows) for part in often))
            self.assertEqual(self.check(ONLY_FIRST, ONLY_SECOND, twice, test), pay)

    def test_pays_below_nought(self):
        for pays, pay in (
            ((((-1, 1), NOUGHT), (NOUGHT, (-1, 1))), (-1, 3)),
            ((((-1, 1), (-1, 1)), ((-1, 1), (-1, 1))), (-1, 1)),
            ((((-5, 1), (-5, 1)), ((-7, 2), (-4, 1))), (-15, 4)),
        ):
            test = (EVEN, ((ONE, ((pays[0], ()), (pays[1], ()))),))
            self.assertEqual(self.check(ONLY_FIRST, ONLY_SECOND, CLEAR, test), pay)

    def test_hopeless_answers(self):
        # Only the shape of the other house counts: its first answer may well be told.
        never = House(2, ((((0,), (NOUGHT, NOUGHT), ()), ((1,), (ONE, ONE), ()),),))
        self.assertEqual(self.check(ONLY_FIRST, ONLY_SECOND, never, GUESS), (2, 3))
        behind = House(2, ((((0,), (NOUGHT, NOUGHT), NEVER), ((1,), (ONE, ONE), ())),))
        rows = (((ONE, NOUGHT), ()), ((NOUGHT, ONE), ()))
        test = (EVEN, ((ONE, (((NOUGHT, NOUGHT), ((ONE, rows),)), ((NOUGHT, NOUGHT), ()))),))
        self.assertEqual(self.check(ONLY_FIRST, ONLY_SECOND, behind, test), (2, 3))
        empty = House(2, ((((0,), (HALF, NOUGHT), ()), ((1,), (HALF, ONE), ()), ((2,), (NOUGHT, NOUGHT), NEVER)),))
        self.assertEqual(self.check(empty, ONLY_SECOND, CLEAR, GUESS), (2, 3))

    def test_later_rounds_bind(self):
        first, second = begun(ONLY_FIRST), tossed((2, 3), ONLY_SECOND, CLEAR)
        rows = (((ONE, NOUGHT), ()), ((NOUGHT, ONE), ()))
        late = (EVEN, ((ONE, (((NOUGHT, NOUGHT), ((ONE, rows),)),)),))
        self.assertEqual(self.check(first, second, begun(CLEAR), late), (13, 18))

    def test_made_up_houses(self):
        for seed in range(60):
            dice = random.Random(seed)
            worlds = dice.randrange(1, 5)
            first, second, other = [made_up_house(dice, worlds, dice.choice((1, 2, 2, 3)), 2, 3) for _ in range(3)]
            self.check(first, second, other, made_up_test(dice, other))

    def test_great_numbers(self):
        for seed in range(12):
            dice = random.Random(seed)
            worlds = dice.randrange(1, 4)
            first, second = [made_up_house(dice, worlds, 2, 2, 3, True) for _ in range(2)]
            other = full_house(dice, worlds, dice.randrange(1, 3), 1, 3)
            self.check(first, second, other, full_test(dice, other))

    def test_everything_is_asked(self):
        below = 0
        for seed in range(30):
            dice = random.Random(seed)
            worlds = dice.randrange(2, 5)
            first, second = [full_house(dice, worlds, dice.randrange(1, 3), 1 + dice.randrange(2), 2) for _ in range(2)]
            other = full_house(dice, worlds, dice.randrange(1, 3), 1, 3)
            test = full_test(dice, other)
            pay = chance(self.check(first, second, other, test))
            below += pay < min(chance(best_paid(house, other, test)) for house in (first, second))
        self.assertGreater(below, 5)

    def test_one_house_twice(self):
        for seed in range(40):
            dice = random.Random(seed)
            worlds = dice.randrange(1, 4)
            house, other = [made_up_house(dice, worlds, 2, 2, 3) for _ in range(2)]
            for test in (made_up_test(dice, other), full_test(dice, other)):
                self.assertEqual(self.check(house, house, other, test), best_paid(house, other, test))

    def test_both_are_bound_even_where_one_alone_would_do(self):
        with patch.object(Agreement, "lead", lambda agreement, holder, amounts: False):
            for seed in range(60):
                dice = random.Random(seed)
                worlds = dice.randrange(1, 5)
                first, second = [made_up_house(dice, worlds, dice.choice((1, 2, 2, 3)), 2, 3, seed % 5 == 0) for _ in range(2)]
                other = made_up_house(dice, worlds, 2, 2, 3)
                for test in (made_up_test(dice, other), full_test(dice, other)):
                    self.check(first, second, other, test)
                    self.assertEqual(self.check(first, first, other, test), best_paid(first, other, test))
            self.assertEqual(self.check(COIN, CLEAR, CLEAR, GUESS), (3, 4))
            self.assertEqual(self.check(CLEAR, NOTHING, CLEAR, GUESS), HALF)

    def test_few_bits_do_too(self):
        before = binding.FIRST_BITS
        try:
            binding.FIRST_BITS = 48
            for seed in range(12):
                dice = random.Random(seed)
                first, second = [full_house(dice, 3, 2, 1, 2) for _ in range(2)]
                other = full_house(dice, 3, 1, 1, 3)
                self.check(first, second, other, full_test(dice, other))
            self.assertEqual(self.check(ONLY_FIRST, ONLY_SECOND, CLEAR, GUESS), (2, 3))
        finally:
            binding.FIRST_BITS = before

    def test_houses_that_functions_made(self):
        wide = made_house(2, (even(30, worlds=2),))
        many = made_house(2, CLEAR.tree * 9)
        rows = GUESS[1][0][1]
        test = (EVEN, ((((1, 9), rows),) * 9))
        self.assertEqual(self.check(wide, many, many, test), HALF)
        self.assertEqual(self.check(COIN, many, many, test), (3, 4))
        high = beside(begun(COIN), torn(CLEAR, 1))
        self.assertEqual(self.check(high, ONLY_FIRST, CLEAR, GUESS), (3, 4))
        five = teller(5)
        test = (((1, 5),) * 5, ((ONE, tuple(
            (tuple(ONE if world == number else NOUGHT for world in range(5)), ()) for number in range(5)
        )),))
        self.assertEqual(self.check(five, five, five, test), ONE)

    def test_wrong_tests(self):
        for thing in strange():
            with self.assertRaises(NoTest):
                most_paid(COIN, CLEAR, CLEAR, thing)
        for thing in spoiled(GUESS, ((2, 4),)):
            if not is_test(CLEAR, thing):
                with self.assertRaises(NoTest):
                    most_paid(COIN, CLEAR, CLEAR, thing)
        with self.assertRaises(NoTest):
            most_paid(COIN, CLEAR, NOTHING, GUESS)

    def test_unlike_worlds_come_ahead_of_wrong_tests(self):
        one = House(1, ())
        for test in (GUESS, None, ((ONE,), ())):
            for houses in ((one, COIN, CLEAR), (COIN, one, CLEAR), (COIN, CLEAR, one), (one, one, CLEAR), (CLEAR, one, one)):
                with self.assertRaises(NotAlike):
                    most_paid(*houses, test)

    def test_equal_calls_tell_equal_things_anew(self):
        first = most_paid(ONLY_FIRST, ONLY_SECOND, CLEAR, GUESS)
        second = most_paid(ONLY_FIRST, ONLY_SECOND, CLEAR, GUESS)
        self.assertEqual(first, second)
        for place in (4, 5):
            self.assertIsNot(first[place][1], second[place][1])


if __name__ == "__main__":
    unittest.main()
