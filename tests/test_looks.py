"""[6.2], [7.1] and [7.2]: what parts looks, their gathered forms, the questions that are kept."""

import random
import unittest
from fractions import Fraction

from tellsless.deciding import are_alike, can_stand
from tellsless.errors import NotAlike, NotLook, NotLooks, NotOneRound
from tellsless.houses import House, begun, made_house
from tellsless.looks import gathered, is_look, kept_questions, parting
from tellsless.plans import led
from tellsless.ratios import is_fraction, is_prior
from tellsless.worths import worth
from tests.things import (
    CLEAR, COIN, HALF, NOUGHT, ONE, chain, chance, even, full_house, made_up_between, made_up_house, made_up_look, pair,
    teller,
)

NOTHING = House(2, ())
QUARTERS = ((1, 4), (1, 4))
LATE = House(2, ((((), (ONE, ONE), CLEAR.tree),),))
TWO = House(2, COIN.tree + CLEAR.tree)


def look_of(*rows):
    """The look with some weights, whose words are numbers, in their order."""
    return House(len(rows[0]), (tuple(((number,), weights, ()) for number, weights in enumerate(rows)),))


def one_round(dice, worlds, questions, answers):
    return House(worlds, tuple(made_up_look(dice, worlds, answers).tree[0] for _ in range(questions)))


class IsLook(unittest.TestCase):
    def test_is_look(self):
        for house in (COIN, CLEAR, House(1, chain(1)), House(5, (even(12, worlds=5),)), gathered(COIN)):
            self.assertIs(is_look(house), True)
        for house in (NOTHING, LATE, TWO, House(1, chain(2)), begun(COIN), House(3, ())):
            self.assertIs(is_look(house), False)
        # Also behind a hopeless answer there must be no question.
        never = House(2, ((((0,), (ONE, ONE), ()), ((1,), (NOUGHT, NOUGHT), ((((), (NOUGHT, NOUGHT), ()),),))),))
        self.assertIs(is_look(never), False)
        self.assertIs(is_look(begun(NOTHING)), True)


class Gathered(unittest.TestCase):
    def test_e07(self):
        self.assertEqual(gathered(look_of((HALF, HALF), QUARTERS, QUARTERS)).tree, ((((0,), (ONE, ONE), ()),),))

    def test_small_ones(self):
        self.assertEqual(gathered(COIN), look_of(((1, 4), (3, 4)), ((3, 4), (1, 4))))
        self.assertEqual(gathered(CLEAR), look_of((NOUGHT, ONE), (ONE, NOUGHT)))
        hopeless = look_of((NOUGHT, NOUGHT), (ONE, ONE), (NOUGHT, NOUGHT))
        self.assertEqual(gathered(hopeless), look_of((ONE, ONE)))
        # 1/10 is below 1/3, and 2/5 below 1/2; from world 0 on.
        many = look_of(((1, 3), (1, 10)), ((1, 10), (1, 3)), ((1, 3), (2, 5)), ((7, 30), (1, 6)))
        self.assertEqual(gathered(many), look_of(((1, 10), (1, 3)), ((7, 30), (1, 6)), ((1, 3), (1, 10)), ((1, 3), (2, 5))))
        apart = look_of(((1, 2), NOUGHT), (NOUGHT, (1, 3)), ((1, 4), NOUGHT), (NOUGHT, (2, 3)), ((1, 4), NOUGHT))
        self.assertEqual(gathered(apart), look_of((NOUGHT, ONE), (ONE, NOUGHT)))

    def test_multiples_with_noughts(self):
        rows = (((1, 2), NOUGHT, (1, 4)), ((1, 4), NOUGHT, (1, 8)), ((1, 4), ONE, (5, 8)))
        self.assertEqual(gathered(look_of(*rows)), look_of(((1, 4), ONE, (5, 8)), ((3, 4), NOUGHT, (3, 8))))

    def test_by_what_the_point_tells(self):
        for seed in range(300):
            dice = random.Random(seed)
            look = made_up_look(dice, 1 + seed % 5, 6, seed % 7 == 0)
            found = gathered(look)
            rows = [tuple(map(chance, answer[1])) for answer in found.tree[0]]
            self.assertEqual([answer[0] for answer in found.tree[0]], [(number,) for number in range(len(rows))])
            self.assertEqual(rows, sorted(rows))
            self.assertTrue(all(any(row) for row in rows))
            for first in rows:
                for second in rows:
                    if first is not second:
                        self.assertTrue(any(
                            first[one] * second[two] != first[two] * second[one]
                            for one in range(len(first)) for two in range(len(first))
                        ))
            # Each row is the sum of those of which it is a multiple.
            for row in rows:
                whole = [Fraction(0)] * len(row)
                for _, weights, _ in look.tree[0]:
                    other = tuple(map(chance, weights))
                    if any(other) and all(
                        row[one] * other[two] == row[two] * other[one] for one in range(len(row)) for two in range(len(row))
                    ):
                        whole = [a + b for a, b in zip(whole, other)]
                self.assertEqual(tuple(whole), row)
            self.assertEqual(gathered(found), found)
            self.assertTrue(all(is_fraction(weight) for answer in found.tree[0] for weight in answer[1]))

    def test_no_looks(self):
        for house in (NOTHING, LATE, TWO, begun(COIN), House(3, ())):
            with self.assertRaises(NotLook):
                gathered(house)

    def test_more_than_twelve_answers(self):
        wide = made_house(2, (even(700, worlds=2),))
        self.assertEqual(gathered(wide), look_of((ONE, ONE)))
        steps = tuple(((number,), ((1, 40), (2 * number, 1560) if number else NOUGHT), ()) for number in range(40))
        steps = tuple((word, (first, pair(chance(second))), node) for word, (first, second), node in steps)
        found = gathered(made_house(2, (steps[::-1],)))
        self.assertEqual([answer[0] for answer in found.tree[0]], [(number,) for number in range(40)])
        self.assertEqual([answer[1] for answer in found.tree[0]], [answer[1] for answer in steps])

    def test_sixth_fact(self):
        told = {True: 0, False: 0}
        for seed in range(300):
            dice = random.Random(seed)
            worlds = dice.randrange(1, 4)
            first, second = made_up_look(dice, worlds, 3), made_up_look(dice, worlds, 3)
            third = led(first, first, made_up_between(dice, first, first, 2))
            for one, other in ((first, second), (first, third), (first, gathered(first)), (first, shuffled(dice, first))):
                alike = are_alike(one, other)
                self.assertIs(gathered(one) == gathered(other), alike)
                told[alike] += 1
        self.assertTrue(told[True] > 100 and told[False] > 100)


def shuffled(dice, look):
    """A look with the same answers in another order, one of them twice, each time with half the chance."""
    rows = [answer[1] for answer in look.tree[0]]
    half = [tuple(pair(chance(weight) / 2) for weight in rows[0])] * 2
    rows = rows[1:] + half
    dice.shuffle(rows)
    return look_of(*rows)


class Parting(unittest.TestCase):
    def check(self, house, other):
        """Looks at what parts two looks; tells whether there is something."""
        found = parting(house, other)
        self.assertIs(found is None, can_stand(house, other))
        if found is None:
            return False
        self.assertIs(type(found), tuple)
        prior, gains = found
        self.assertTrue(is_prior(prior, house.worlds))
        self.assertGreater(chance(worth(other, prior, gains)), chance(worth(house, prior, gains)))
        return True

    def test_small_ones(self):
        self.assertFalse(self.check(CLEAR, COIN))
        self.assertTrue(self.check(COIN, CLEAR))
        self.assertFalse(self.check(COIN, COIN))
        silent = look_of((HALF, HALF), (HALF, HALF))
        self.assertFalse(self.check(COIN, silent))
        self.assertTrue(self.check(silent, COIN))
        one, other = look_of(((1, 2), NOUGHT), (HALF, ONE)), look_of((NOUGHT, HALF), (ONE, HALF))
        self.assertTrue(self.check(one, other))
        self.assertTrue(self.check(other, one))
        hopeless = look_of((ONE, NOUGHT), (NOUGHT, NOUGHT), (NOUGHT, ONE))
        self.assertTrue(self.check(COIN, hopeless))
        self.assertFalse(self.check(hopeless, CLEAR))

    def test_drawn_looks(self):
        told = {True: 0, False: 0}
        for seed in range(400):
            dice = random.Random(seed)
            worlds = 1 + seed % 5
            first = made_up_look(dice, worlds, 5, seed % 11 == 0)
            second = made_up_look(dice, worlds, 5, seed % 11 == 0)
            told[self.check(first, second)] += 1
            self.assertFalse(self.check(first, led(first, second, made_up_between(dice, first, second))))
            self.check(led(first, second, made_up_between(dice, first, second)), first)
        self.assertTrue(told[True] > 50 and told[False] > 50)

    def test_errors(self):
        for house in (NOTHING, LATE, TWO, begun(COIN)):
            for first, second in ((house, COIN), (COIN, house), (house, house)):
                with self.assertRaises(NotLooks):
                    parting(first, second)
            for other in (teller(3), House(3, ())):
                with self.assertRaises(NotAlike):
                    parting(house, other)
                with self.assertRaises(NotAlike):
                    parting(other, house)
        with self.assertRaises(NotAlike):
            parting(COIN, teller(3))


class KeptQuestions(unittest.TestCase):
    def test_small_ones(self):
        self.assertEqual(kept_questions(COIN), (0,))
        self.assertEqual(kept_questions(TWO), (1,))
        self.assertEqual(kept_questions(House(2, CLEAR.tree + COIN.tree)), (0,))
        # Of equal ones the first stays.
        self.assertEqual(kept_questions(House(2, COIN.tree * 5)), (0,))
        silent = even(2, worlds=2)
        self.assertEqual(kept_questions(House(2, (silent,))), (0,))
        self.assertEqual(kept_questions(House(2, (silent, silent, silent))), (0,))
        self.assertEqual(kept_questions(House(2, (silent,) + COIN.tree)), (1,))
        self.assertEqual(kept_questions(House(2, COIN.tree + (silent,))), (0,))

    def test_questions_that_tell_unlike_things(self):
        def tells(world, worlds=4):
            yes = tuple(ONE if other == world else NOUGHT for other in range(worlds))
            no = tuple(NOUGHT if other == world else ONE for other in range(worlds))
            return (((0,), no, ()), ((1,), yes, ()))
        self.assertEqual(kept_questions(House(4, (tells(0), tells(1), tells(2), tells(3)))), (0, 1, 2, 3))
        self.assertEqual(kept_questions(House(4, (tells(0), tells(1), tells(1), tells(0), tells(3)))), (0, 1, 4))
        self.assertEqual(kept_questions(House(4, (tells(0), teller(4).tree[0], tells(3)))), (1,))

    def test_struck_one_after_another(self):
        for seed in range(80):
            dice = random.Random(seed)
            house = one_round(dice, dice.randrange(1, 4), dice.randrange(1, 5), 3)
            kept = list(range(len(house.tree)))
            for question in range(len(house.tree) - 1, -1, -1):
                rest = [other for other in kept if other != question]
                if rest and can_stand(
                    House(house.worlds, tuple(house.tree[other] for other in rest)),
                    House(house.worlds, (house.tree[question],)),
                ):
                    kept = rest
            self.assertEqual(kept_questions(house), tuple(kept))

    def test_seventh_fact(self):
        told = {True: 0, False: 0}
        for seed in range(150):
            dice = random.Random(seed)
            worlds = dice.randrange(1, 4)
            first = one_round(dice, worlds, dice.randrange(1, 4), 2)
            again = [question for question in first.tree] + [first.tree[0]]
            look = House(worlds, first.tree[:1])
            again.append(led(look, look, made_up_between(dice, look, look)).tree[0])
            dice.shuffle(again)
            for second in (one_round(dice, worlds, dice.randrange(1, 4), 2), House(worlds, tuple(again))):
                rows = [
                    [gathered(House(worlds, (house.tree[question],))).tree for question in kept_questions(house)]
                    for house in (first, second)
                ]
                for row in rows:
                    self.assertEqual(len(set(row)), len(row))
                alike = are_alike(first, second)
                self.assertIs(sorted(rows[0]) == sorted(rows[1]), alike)
                told[alike] += 1
        self.assertTrue(told[True] > 50 and told[False] > 50)

    def test_not_one_round(self):
        for house in (NOTHING, LATE, House(2, COIN.tree + LATE.tree), begun(COIN), full_house(random.Random(1), 2, 2, 2, 2)):
            with self.assertRaises(NotOneRound):
                kept_questions(house)

    def test_arguments_stay_and_equal_calls_give_equal_answers(self):
        rows = []
        for dice in (random.Random(5), random.Random(5)):
            first, second = made_up_look(dice, 3), made_up_look(dice, 3)
            house = one_round(dice, 3, 3, 3)
            rows.append((first, second, house, gathered(first), parting(first, second), kept_questions(house)))
        self.assertEqual(*rows)
        self.assertIs(is_look(made_up_house(random.Random(1), 2, 0)), False)


if __name__ == "__main__":
    unittest.main()
