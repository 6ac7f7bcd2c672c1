"""Of [4.2] best_paid, [4.3] and [4.4]."""

import random
import unittest
from fractions import Fraction

from tellsless.errors import NotAlike, NoTest
from tellsless.houses import House, begun, hopeful, made_house, node_at, paths, weights_at
from tellsless.plans import led, passing
from tellsless.prices import are_prices, best_paid, is_against, prices
from tellsless.ratios import is_fraction
from tellsless.referees import paid
from tests.things import (
    CLEAR, COIN, HALF, NOUGHT, ONE, all_waits, chance, even, made_up_between, made_up_house, made_up_test, nested, pair,
    plans_many, spoiled, strange,
)

EVEN = (HALF, HALF)
GUESS = (EVEN, ((ONE, (((ONE, NOUGHT), ()), ((NOUGHT, ONE), ()))),))
NOTHING = House(2, ())
DEEP = House(2, ((
    ((0,), (HALF, (2, 3)), (
        (((0,), ((1, 4), (2, 3)), ()), ((1,), ((1, 4), NOUGHT), ())),
        (((0,), (NOUGHT, (1, 3)), ()), ((1,), (HALF, (1, 3)), ())),
    )),
    ((1,), (HALF, (1, 3)), ()),
),))


def lows(house, other, test, found, path, question, place):
    """All that the price at (path, question, place) must not be below, as [4.3] tells it."""
    prior, table = test
    way = Fraction(1)
    for asked, answer in path:
        way *= chance(table[asked][0])
        table = table[asked][1][answer][1]
    often, rows = table[question]
    way *= chance(often)
    row = []
    for answer, (pays, _) in enumerate(rows):
        after = path + ((question, answer),)
        now = sum(chance(p) * chance(w) * chance(pay) for p, w, pay in zip(prior, weights_at(house, place), pays))
        row.append(way * now + sum(chance(found[(after, q, place)]) for q in range(len(node_at(other, after)))))
    for q, heard in enumerate(node_at(house, place)):
        row.append(sum(chance(found[(path, question, place + ((q, b),))]) for b in range(len(heard))))
    return row


def keys_of(house, other):
    return [
        (path, question, place)
        for path in paths(other)
        for question in range(len(node_at(other, path)))
        for place in paths(house)
    ]


def hold(house, other, test, found):
    """Whether all inequalities of [4.3] hold."""
    return all(
        chance(found[key]) >= max(lows(house, other, test, found, *key))
        for key in keys_of(house, other)
    )


def sum_of(other, found):
    return sum((chance(found[((), q, ())]) for q in range(len(other.tree))), Fraction(0))


def likely_table(node, worlds):
    """A table that pays for an answer, in each world, its weight: what the house itself tells is often paid."""
    return tuple(
        ((1, len(node)), tuple((weights, likely_table(behind, worlds)) for _, weights, behind in question))
        for question in node
    )


def best_of_plans(house, other, test):
    """The most that any plan is paid."""
    return max(chance(paid(led(house, other, ((ONE, plan),)), test)) for plan in all_waits(other.tree, house.tree))


class BestPaid(unittest.TestCase):
    def test_e03(self):
        self.assertEqual(best_paid(COIN, CLEAR, GUESS), (3, 4))
        self.assertEqual(best_paid(CLEAR, CLEAR, GUESS), ONE)
        self.assertEqual(best_paid(NOTHING, CLEAR, GUESS), HALF)
        self.assertEqual(best_paid(CLEAR, COIN, GUESS), ONE)

    def test_no_plan_is_paid_more_and_one_is_paid_so_much(self):
        done = 0
        for seed in range(2500):
            dice = random.Random(seed)
            worlds = dice.randrange(1, 4)
            house = made_up_house(dice, worlds, dice.randrange(3), 2, 2)
            other = made_up_house(dice, worlds, dice.randrange(3), 2, 2)
            if 1 < plans_many(other.tree, house.tree) <= 300:
                test = made_up_test(dice, other)
                self.assertEqual(chance(best_paid(house, other, test)), best_of_plans(house, other, test))
                between = made_up_between(dice, house, other)
                self.assertLessEqual(
                    chance(paid(led(house, other, between), test)), chance(best_paid(house, other, test))
                )
                done += 1
        self.assertGreater(done, 300)

    def test_houses_without_questions(self):
        for house in (NOTHING, COIN, CLEAR, DEEP):
            self.assertEqual(best_paid(house, NOTHING, (EVEN, ())), NOUGHT)
            self.assertEqual(prices(house, NOTHING, (EVEN, ())), {})
        self.assertEqual(best_paid(NOTHING, COIN, GUESS), HALF)
        self.assertEqual(best_paid(NOTHING, COIN, (((1, 3), (2, 3)), GUESS[1])), (2, 3))

    def test_questions_that_are_never_asked(self):
        rows = GUESS[1][0][1]
        self.assertEqual(best_paid(CLEAR, COIN, (EVEN, ((NOUGHT, rows),))), NOUGHT)
        two = House(2, COIN.tree * 2)
        self.assertEqual(best_paid(COIN, two, (EVEN, ((NOUGHT, rows), ((1, 3), rows)))), (1, 4))
        self.assertEqual(best_paid(COIN, two, (EVEN, ((HALF, rows), (HALF, rows)))), (3, 4))

    def test_worlds_that_never_are(self):
        great = (10 ** 29, 1)
        table = ((ONE, (((great, NOUGHT), ()), ((NOUGHT, ONE), ()))),)
        self.assertEqual(best_paid(NOTHING, CLEAR, ((NOUGHT, ONE), table)), ONE)
        self.assertEqual(best_paid(COIN, CLEAR, ((NOUGHT, ONE), table)), ONE)

    def test_pays_below_nought(self):
        table = ((ONE, ((((-1, 1), (-3, 1)), ()), (((-3, 1), (-1, 1)), ()))),)
        self.assertEqual(best_paid(CLEAR, COIN, (EVEN, table)), (-1, 1))
        self.assertEqual(best_paid(NOTHING, COIN, (EVEN, table)), (-2, 1))
        self.assertEqual(best_paid(COIN, COIN, (EVEN, table)), (-3, 2))

    def test_hopeless_answers(self):
        never = House(2, ((((0,), (ONE, ONE), ()), ((1,), (NOUGHT, NOUGHT), ())),))
        table = ((ONE, (((NOUGHT, NOUGHT), ()), ((ONE, (2, 1)), ()))),)
        # The other house never tells it, but a go-between may.
        self.assertEqual(paid(never, (EVEN, table)), NOUGHT)
        self.assertEqual(best_paid(NOTHING, never, (EVEN, table)), (3, 2))
        self.assertEqual(best_paid(never, CLEAR, GUESS), HALF)

    def test_what_is_asked_early_helps_later(self):
        # Two rounds: first a guess, then, behind a right name of it, what the coin told.
        late = House(2, ((((), (ONE, ONE), CLEAR.tree),),))
        test = (EVEN, ((ONE, (((NOUGHT, NOUGHT), GUESS[1]),)),))
        self.assertEqual(best_paid(COIN, late, test), (3, 4))
        self.assertEqual(best_paid(begun(COIN), late, test), (3, 4))

    def test_unlike_worlds_and_no_tests(self):
        other = House(1, ())
        for thing in strange() + [GUESS]:
            for function in (best_paid, prices):
                with self.assertRaises(NotAlike):
                    function(COIN, other, thing)
                with self.assertRaises(NotAlike):
                    function(other, COIN, thing)
                if thing != GUESS:
                    with self.assertRaises(NoTest):
                        function(CLEAR, COIN, thing)
        # The test has to be shaped like the other house, not like the house.
        with self.assertRaises(NoTest):
            best_paid(CLEAR, NOTHING, GUESS)
        with self.assertRaises(NoTest):
            best_paid(CLEAR, COIN, (EVEN, ()))


class Prices(unittest.TestCase):
    def check(self, house, other, test):
        found = prices(house, other, test)
        self.assertIs(type(found), dict)
        self.assertEqual(sorted(found), sorted(keys_of(house, other)))
        for key, price in found.items():
            self.assertTrue(is_fraction(price))
            # The least that it can be, those behind it being so.
            self.assertEqual(chance(price), max(lows(house, other, test, found, *key)))
        self.assertEqual(sum_of(other, found), chance(best_paid(house, other, test)))
        self.assertIs(are_prices(house, other, test, found), True)
        self.assertGreaterEqual(sum_of(other, found), chance(paid(led(house, other, made_up_between(
            random.Random(1), house, other)), test)))
        return found

    def test_small_ones(self):
        self.assertEqual(self.check(COIN, CLEAR, GUESS), {
            ((), 0, ()): (3, 4), ((), 0, ((0, 0),)): (3, 8), ((), 0, ((0, 1),)): (3, 8),
        })
        self.assertEqual(self.check(NOTHING, CLEAR, GUESS), {((), 0, ()): HALF})

    def test_made_up_ones(self):
        for seed in range(250):
            dice = random.Random(seed)
            worlds, great = dice.randrange(1, 6), seed % 9 == 0
            house = made_up_house(dice, worlds, dice.randrange(3), 2, 3, great)
            other = made_up_house(dice, worlds, dice.randrange(3), 2, 3, great)
            self.check(house, other, made_up_test(dice, other))

    def test_a_new_dict_each_time(self):
        found = prices(COIN, CLEAR, GUESS)
        found.clear()
        self.assertEqual(len(prices(COIN, CLEAR, GUESS)), 3)

    def test_houses_that_functions_made(self):
        wide = made_house(2, (even(400, worlds=2),))
        rows = tuple((((number, 1), NOUGHT), ()) for number in range(400))
        found = self.check_sum(COIN, wide, (EVEN, ((ONE, rows),)))
        self.assertEqual(found, (399, 2))
        self.assertEqual(len(prices(wide, CLEAR, GUESS)), 401)
        for house in (begun(DEEP), hopeful(DEEP), led(DEEP, DEEP, passing(DEEP))):
            self.check(house, COIN, GUESS)
            self.check(COIN, house, made_up_test(random.Random(3), house))

    def check_sum(self, house, other, test):
        self.assertEqual(sum_of(other, prices(house, other, test)), chance(best_paid(house, other, test)))
        return best_paid(house, other, test)


class ArePrices(unittest.TestCase):
    def judged(self, house, other, test, found):
        self.assertIs(are_prices(house, other, test, found), hold(house, other, test, found))
        return hold(house, other, test, found)

    def test_raised_and_lowered(self):
        told = {True: 0, False: 0}
        for seed in range(60):
            dice = random.Random(seed)
            house, other = made_up_house(dice, 2, 2, 2, 2), made_up_house(dice, 2, 2, 2, 2)
            test = made_up_test(dice, other)
            found = prices(house, other, test)
            if len(found) > 120:
                continue
            for key in found:
                for more in (Fraction(1, 7), Fraction(10 ** 29)):
                    raised = dict(found)
                    raised[key] = pair(chance(found[key]) + more)
                    told[self.judged(house, other, test, raised)] += 1
                lowered = dict(found)
                lowered[key] = pair(chance(found[key]) - Fraction(1, 10 ** 20))
                self.assertIs(are_prices(house, other, test, lowered), False)
        self.assertTrue(told[True] > 50 and told[False] > 50)

    def test_all_raised_together(self):
        found = {key: pair(chance(price) * 2) for key, price in prices(COIN, CLEAR, GUESS).items()}
        self.assertIs(are_prices(COIN, CLEAR, GUESS, found), True)
        found[((), 0, ())] = ONE
        self.assertIs(are_prices(COIN, CLEAR, GUESS, found), False)
        found[((), 0, ((0, 0),))] = HALF
        found[((), 0, ((0, 1),))] = HALF
        self.assertIs(are_prices(COIN, CLEAR, GUESS, found), True)

    def test_keys(self):
        found = prices(COIN, CLEAR, GUESS)
        for key in list(found):
            less = dict(found)
            del less[key]
            self.assertIs(are_prices(COIN, CLEAR, GUESS, less), False)
            for other in (None, 5, "a", (), ((), 0), ((), 1, ()), ((), 0, ((0, 2),)), ((), 0, ((1, 0),)), (((0, 0),), 0, ()),
                          ((), 0, (), ()), ((), -1, ()), ("", 0, ())):
                changed = dict(less)
                changed[other] = found[key]
                self.assertIs(are_prices(COIN, CLEAR, GUESS, changed), False)
                self.assertIs(are_prices(COIN, CLEAR, GUESS, {**found, other: (9, 1)}), False)

    def test_values(self):
        found = prices(COIN, CLEAR, GUESS)
        for key in found:
            for thing in strange() + [(6, 8), (0, 2), (1, 0), (2, -1), [1, 1], (True, 1), (9, True), (9,), (9, 1, 1), 9]:
                self.assertIs(are_prices(COIN, CLEAR, GUESS, {**found, key: thing}), False)

    def test_things_of_all_kinds(self):
        for thing in strange() + [[], (), nested(120), {(): 1}, {"a": nested(119)}]:
            self.assertIs(are_prices(COIN, CLEAR, GUESS, thing), False)
        for thing in strange():
            self.assertIs(are_prices(COIN, NOTHING, (EVEN, ()), thing), thing == {} and type(thing) is dict)
        self.assertIs(are_prices(COIN, CLEAR, GUESS, list(prices(COIN, CLEAR, GUESS).items())), False)

    def test_errors_come_first(self):
        other = House(3, ())
        for thing in strange():
            with self.assertRaises(NotAlike):
                are_prices(COIN, other, thing, thing)
            with self.assertRaises(NoTest):
                are_prices(COIN, CLEAR, thing, thing)
            with self.assertRaises(NoTest):
                are_prices(COIN, CLEAR, thing, prices(COIN, CLEAR, GUESS))


class IsAgainst(unittest.TestCase):
    def test_small_ones(self):
        paper = (GUESS, prices(COIN, CLEAR, GUESS))
        self.assertIs(is_against(COIN, CLEAR, paper), True)
        self.assertIs(is_against(CLEAR, CLEAR, (GUESS, prices(CLEAR, CLEAR, GUESS))), False)
        self.assertIs(is_against(COIN, COIN, (GUESS, prices(COIN, COIN, GUESS))), False)
        self.assertIs(is_against(NOTHING, COIN, (GUESS, prices(NOTHING, COIN, GUESS))), True)
        # Prices for another house are of other places.
        self.assertIs(is_against(COIN, CLEAR, (GUESS, prices(NOTHING, CLEAR, GUESS))), False)

    def test_prices_need_not_be_the_least(self):
        for price, is_right in (((3, 4), True), ((7, 8), True), ((99, 100), True), (ONE, False), ((2, 1), False), (HALF, False)):
            found = {**prices(COIN, CLEAR, GUESS), ((), 0, ()): price}
            self.assertIs(is_against(COIN, CLEAR, (GUESS, found)), is_right)

    def test_just_the_pairs_that_the_point_tells(self):
        told = {True: 0, False: 0}
        for seed in range(300):
            dice = random.Random(seed)
            worlds = dice.randrange(1, 4)
            house, other = made_up_house(dice, worlds, seed % 2, 1, 2), made_up_house(dice, worlds, 1, 2, 2)
            test = (((1, worlds),) * worlds, likely_table(other.tree, worlds))
            found = prices(house, other, test)
            is_right = sum_of(other, found) < chance(paid(other, test))
            self.assertIs(is_against(house, other, (test, found)), is_right)
            told[is_right] += 1
        self.assertTrue(told[True] > 20 and told[False] > 20)

    def test_wrong_things(self):
        found = prices(COIN, CLEAR, GUESS)
        for thing in [(GUESS,), (GUESS, found, ()), [GUESS, found], (found, GUESS), (GUESS, None), (None, found), GUESS, found,
                      ("against", GUESS, found), (EVEN, found)]:
            self.assertIs(is_against(COIN, CLEAR, thing), False)
        for thing in strange():
            self.assertIs(is_against(COIN, CLEAR, thing), False)
            self.assertIs(is_against(COIN, CLEAR, (thing, found)), False)
            self.assertIs(is_against(COIN, CLEAR, (GUESS, thing)), False)
            self.assertIs(is_against(COIN, NOTHING, (thing, {})), False)
        for test in spoiled(GUESS, ()):
            self.assertIs(is_against(COIN, CLEAR, (test, found)), False)

    def test_unlike_worlds(self):
        for thing in strange():
            with self.assertRaises(NotAlike):
                is_against(COIN, House(1, ()), thing)
            with self.assertRaises(NotAlike):
                is_against(House(5, ()), COIN, thing)

    def test_arguments_stay(self):
        rows = []
        for dice in (random.Random(7), random.Random(7)):
            house, other = made_up_house(dice, 2), made_up_house(dice, 2)
            test = made_up_test(dice, other)
            rows.append((house, other, test, prices(house, other, test)))
        self.assertEqual(*rows)
        house, other, test, found = rows[0]
        are_prices(house, other, test, found)
        is_against(house, other, (test, found))
        best_paid(house, other, test)
        self.assertEqual(*rows)


if __name__ == "__main__":
    unittest.main()
