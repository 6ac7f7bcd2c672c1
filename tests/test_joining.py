"""[3.3]: joined."""

import random
import unittest

from tellsless.errors import NotAlike, NotBetween
from tellsless.houses import House, begun, paths
from tellsless.joining import joined
from tellsless.plans import is_between, is_plan, led, passing
from tests.things import (
    CLEAR, COIN, HALF, NOUGHT, ONE, made_up_between, made_up_house, spoiled, strange,
)

HEAR = ("ask", 0, (("tell", 0, ()), ("tell", 1, ())))
TURN = ("ask", 0, (("tell", 1, ()), ("tell", 0, ())))
TO_COIN = (((3, 4), (HEAR,)), ((1, 4), (TURN,)))


def coin_of(top, bottom):
    """A house that tells the world with a chance, and otherwise the other one."""
    right, wrong = (top, bottom), (bottom - top, bottom)
    return House(2, ((((0,), (right, wrong), ()), ((1,), (wrong, right), ())),))


class Joined(unittest.TestCase):
    def check(self, house, other, third, first, second):
        between = joined(house, other, third, first, second)
        self.assertIsInstance(between, tuple)
        for _, plan in between:
            self.assertTrue(is_plan(house, third, plan))
        wanted = led(led(house, other, first), third, second)
        self.assertEqual(led(house, third, between), wanted)
        if is_between(house, other, first):
            self.assertEqual(wanted, led(other, third, second))
        return between

    def test_small_ones(self):
        # A turned coin of a turned coin: right with the chance 9/16 + 1/16.
        between = self.check(CLEAR, COIN, coin_of(5, 8), TO_COIN, TO_COIN)
        self.assertTrue(is_between(CLEAR, coin_of(5, 8), between))
        between = self.check(CLEAR, CLEAR, CLEAR, ((ONE, (TURN,)),), ((ONE, (TURN,)),))
        self.assertTrue(is_between(CLEAR, CLEAR, between))

    def test_first_makes_another_house(self):
        # First makes the coin, not the house other, which is clear: second hears the coin.
        between = self.check(CLEAR, CLEAR, CLEAR, TO_COIN, ((ONE, (HEAR,)),))
        self.assertEqual(led(CLEAR, CLEAR, between), COIN)
        self.assertFalse(is_between(CLEAR, CLEAR, between))
        # First tells a hopeless answer of other.
        never = House(2, ((((0,), (ONE, ONE), ()), ((1,), (NOUGHT, NOUGHT), ())),))
        between = self.check(CLEAR, never, COIN, ((ONE, (HEAR,)),), ((ONE, (HEAR,)),))
        self.assertEqual(led(CLEAR, COIN, between), CLEAR)

    def test_with_passing(self):
        for seed in range(60):
            dice = random.Random(seed)
            house, other = made_up_house(dice, 2, deep=2), made_up_house(dice, 2, deep=2)
            between = made_up_between(dice, house, other)
            made = led(house, other, between)
            self.assertEqual(led(house, other, self.check(house, other, other, between, passing(other))), made)
            self.assertEqual(led(house, other, self.check(house, house, other, passing(house), between)), made)

    def test_without_questions(self):
        nothing = House(2, ())
        empty = ((HALF, ()), (HALF, ()))
        tell = ((ONE, (("tell", 1, ()),)),)
        self.assertTrue(is_between(nothing, nothing, self.check(nothing, nothing, nothing, empty, empty)))
        self.assertTrue(is_between(COIN, nothing, self.check(COIN, CLEAR, nothing, ((ONE, (HEAR,)),), empty)))
        sure = self.check(COIN, nothing, COIN, empty, tell)
        self.assertEqual(led(COIN, COIN, sure).tree[0][1][1], (ONE, ONE))
        self.check(nothing, COIN, COIN, tell, ((ONE, (HEAR,)),))

    def test_several_rounds(self):
        # Second asks both coins ahead of one answer; first makes each of two coins of one round out of two.
        two = begun(begun(COIN))
        self.check(two, two, two, passing(two), passing(two))
        late = (("ask", 0, (("ask", 0, (("ask", 0, (("tell", 0, ()), ("tell", 1, ()))),)),)),)
        between = self.check(two, two, COIN, passing(two), ((ONE, late),))
        self.assertTrue(is_between(two, COIN, between))
        early = (("tell", 0, (("tell", 0, (HEAR,)),)),)
        between = self.check(COIN, two, COIN, ((ONE, early),), ((ONE, late),))
        self.assertTrue(is_between(COIN, COIN, between))

    def test_made_up_go_betweens(self):
        makes = 0
        for seed in range(300):
            dice = random.Random(seed)
            worlds = 1 + seed % 5
            house, other, third = (made_up_house(dice, worlds, deep=dice.randrange(4), great=seed % 9 == 0) for _ in range(3))
            if max(len(paths(one)) for one in (house, other, third)) > 60:
                continue
            first, second = made_up_between(dice, house, other), made_up_between(dice, other, third)
            self.check(house, other, third, first, second)
            self.check(house, led(house, other, first), third, first, second)
            makes += 1
        self.assertGreater(makes, 100)

    def test_no_go_betweens(self):
        right = ((ONE, (HEAR,)),)
        wrong = [thing for thing in strange()] + list(spoiled(right)) + list(spoiled(TO_COIN))
        for thing in wrong:
            with self.assertRaises(NotBetween):
                joined(COIN, CLEAR, COIN, thing, right)
            with self.assertRaises(NotBetween):
                joined(COIN, CLEAR, COIN, right, thing)
            with self.assertRaises(NotBetween):
                joined(COIN, CLEAR, COIN, thing, thing)
        # Each is judged between its own two houses.
        nothing, empty = House(2, ()), ((ONE, ()),)
        joined(COIN, nothing, nothing, empty, empty)
        for first, second in ((right, empty), (empty, right), (right, right)):
            with self.assertRaises(NotBetween):
                joined(COIN, nothing, nothing, first, second)
        with self.assertRaises(NotBetween):
            joined(nothing, COIN, COIN, right, right)

    def test_unlike_numbers_of_worlds(self):
        one, two = House(1, ()), House(2, ())
        between = ((ONE, ()),)
        for houses in ((one, two, two), (two, one, two), (two, two, one), (one, one, two), (one, two, one), (two, one, one)):
            for first, second in ((between, between), (None, between), (between, None), (None, 7)):
                with self.assertRaises(NotAlike):
                    joined(*houses, first, second)
        for house in (one, two):
            self.assertTrue(is_between(house, house, joined(house, house, house, between, between)))

    def test_arguments_stay_and_equal_calls_give_equal_answers(self):
        rows = []
        for dice in (random.Random(4), random.Random(4)):
            houses = [made_up_house(dice, 3, deep=2) for _ in range(3)]
            rows.append((*houses, made_up_between(dice, *houses[:2]), made_up_between(dice, *houses[1:])))
        self.assertEqual(joined(*rows[0]), joined(*rows[1]))
        self.assertEqual(*rows)


if __name__ == "__main__":
    unittest.main()
