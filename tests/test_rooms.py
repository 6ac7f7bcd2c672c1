"""[8.1], and of [8.4] what it says of beside, tossed and hidden."""

import random
import unittest

from tellsless.deciding import can_stand
from tellsless.errors import NoShare, NotAlike, NotShaped, TooLarge
from tellsless.houses import House, begun, is_shaped, made_house, node_at, paths, rounds, weights_at
from tellsless.plans import led
from tellsless.rooms import beside, hidden, tossed
from tests.things import (
    CLEAR, COIN, HALF, NOUGHT, ONE, chain, chance, even, made_up_between, made_up_house, nested, pair, split, strange,
)

NOTHING = House(2, ())
WRONG_SHARES = [
    ONE, NOUGHT, (-1, 2), (3, 2), (2, 4), (0, 2), (1, 0), (1, -2), (-1, -2), True, False, (True, 2), (1, True), [1, 2], (1,),
    (1, 2, 3), "12", 1, 0, None, (), ((1, 2),), nested(120), nested(118, (1, 2)), (10 ** 29, 10 ** 29 - 1),
]


def size(house):
    return len(paths(house)) - 1


def word_at(house, path):
    question, answer = path[-1]
    return node_at(house, path[:-1])[question][answer][0]


def split_path(house, path):
    """The paths of the first and of the other house, which a path of both beside one another goes, and its last word."""
    first, second, word = (), (), None
    for question, answer in path:
        many = len(node_at(house, first))
        if question < many:
            first += ((question, answer),)
            word = (0, first)
        else:
            second += ((question - many, answer),)
            word = (1, second)
    return first, second, word


class Beside(unittest.TestCase):
    def check(self, house, other):
        made = beside(house, other)
        self.assertEqual(made.worlds, house.worlds)
        for path in paths(made):
            first, second, last = split_path(house, path)
            weights = [chance(a) * chance(b) for a, b in zip(weights_at(house, first), weights_at(other, second))]
            self.assertEqual(list(map(chance, weights_at(made, path))), weights)
            node = node_at(made, path)
            self.assertEqual(
                [len(question) for question in node],
                [len(question) for question in node_at(house, first) + node_at(other, second)],
            )
            if last is not None:
                number, way = last
                self.assertEqual(word_at(made, path), (number,) + word_at((house, other)[number], way))
        self.assertEqual(rounds(made), rounds(house) + rounds(other))
        return made

    def test_small_ones(self):
        half = ((1, 2), (1, 2))
        toss = House(2, (even(2, worlds=2),))
        self.assertEqual(self.check(COIN, NOTHING), House(2, (
            (((0, 0), ((3, 4), (1, 4)), ()), ((0, 1), ((1, 4), (3, 4)), ())),
        )))
        self.assertEqual(self.check(NOTHING, COIN), House(2, (
            (((1, 0), ((3, 4), (1, 4)), ()), ((1, 1), ((1, 4), (3, 4)), ())),
        )))
        self.assertEqual(self.check(NOTHING, NOTHING), NOTHING)
        made = self.check(COIN, toss)
        self.assertEqual(made.tree[0][0], ((0, 0), ((3, 4), (1, 4)), (
            (((1, 0), ((3, 8), (1, 8)), ()), ((1, 1), ((3, 8), (1, 8)), ())),
        )))
        self.assertEqual(made.tree[1][1], ((1, 1), half, (
            (((0, 0), ((3, 8), (1, 8)), ()), ((0, 1), ((1, 8), (3, 8)), ())),
        )))

    def test_hopeless_answers(self):
        never = House(2, ((((0,), (ONE, ONE), ()), ((1,), (NOUGHT, NOUGHT), ((((), (NOUGHT, NOUGHT), ()),),))),))
        made = self.check(never, COIN)
        self.assertEqual(weights_at(made, ((0, 1), (1, 0))), (NOUGHT, NOUGHT))
        self.check(COIN, never)
        self.check(never, never)

    def test_made_up_ones(self):
        done = 0
        for seed in range(200):
            dice = random.Random(seed)
            worlds = 1 + seed % 5
            house, other = made_up_house(dice, worlds, 2, 2, 2, seed % 8 == 0), made_up_house(dice, worlds, 2, 2, 2)
            if size(house) * size(other) < 60:
                self.check(house, other)
                done += 1
        self.assertGreater(done, 100)

    def test_rounds(self):
        for first, second in ((8, 4), (4, 8), (12, 0), (0, 12), (1, 11), (10, 2)):
            house, other = long_house(first), long_house(second)
            self.assertEqual(rounds(beside(house, other)), 12)
            if first < 12:
                with self.assertRaises(TooLarge):
                    beside(long_house(first + 1), other)
            if second < 12:
                with self.assertRaises(TooLarge):
                    beside(house, long_house(second + 1))
        # 12 rounds, but too many answers.
        with self.assertRaises(TooLarge):
            beside(long_house(6), long_house(6))
        with self.assertRaises(TooLarge):
            beside(long_house(12), long_house(12))

    def test_answers(self):
        # So many answers and one: a + b + 2ab.
        for first, second in ((1, 999), (2, 599), (999, 1)):
            house, other = wide_house(first), wide_house(second)
            many = first + second + 2 * first * second
            self.assertTrue(2990 <= many <= 3000)
            self.assertEqual(size(beside(house, other)), many)
            with self.assertRaises(TooLarge):
                beside(house, wide_house(second + 3))
        self.assertEqual(size(beside(wide_house(3000), House(1, ()))), 3000)
        with self.assertRaises(TooLarge):
            beside(wide_house(3000), wide_house(1))
        with self.assertRaises(TooLarge):
            beside(wide_house(3000), wide_house(3000))

    def test_unlike_worlds(self):
        for first, second in ((COIN, House(1, ())), (House(3, ()), COIN), (wide_house(3000), COIN)):
            with self.assertRaises(NotAlike):
                beside(first, second)


def long_house(many):
    """A house of one world with so many rounds."""
    house = House(1, chain(min(many, 8)))
    while rounds(house) < many:
        house = made_house(1, ((((), (ONE,), house.tree),),))
    return house


def wide_house(many):
    """A house of one world with one question of so many answers."""
    return made_house(1, (even(many),))


class Tossed(unittest.TestCase):
    def test_small_ones(self):
        self.assertEqual(tossed((1, 3), COIN, NOTHING), House(2, ((
            ((0,), ((1, 3), (1, 3)), ((((0,), ((1, 4), (1, 12)), ()), ((1,), ((1, 12), (1, 4)), ())),)),
            ((1,), ((2, 3), (2, 3)), ()),
        ),)))
        self.assertEqual(tossed(HALF, NOTHING, NOTHING), House(2, (even(2, worlds=2),)))

    def test_made_up_ones(self):
        for seed in range(100):
            dice = random.Random(seed)
            worlds = 1 + seed % 5
            house, other = made_up_house(dice, worlds), made_up_house(dice, worlds)
            share = pair(split(dice, 1, 2)[0] / 2 + (chance((1, 10 ** 29))))
            made = tossed(share, house, other)
            self.assertEqual(len(made.tree), 1)
            self.assertEqual([answer[0] for answer in made.tree[0]], [(0,), (1,)])
            for number, (part, inner) in enumerate(((chance(share), house), (1 - chance(share), other))):
                self.assertTrue(is_shaped(behind(made, number), inner))
                for path in paths(inner):
                    self.assertEqual(
                        [chance(weight) for weight in weights_at(made, ((0, number),) + path)],
                        [part * chance(weight) for weight in weights_at(inner, path)],
                    )

    def test_too_large(self):
        self.assertEqual(size(tossed(HALF, wide_house(1499), wide_house(1499))), 3000)
        with self.assertRaises(TooLarge):
            tossed(HALF, wide_house(1499), wide_house(1500))
        self.assertEqual(rounds(tossed(HALF, long_house(11), House(1, ()))), 12)
        with self.assertRaises(TooLarge):
            tossed(HALF, long_house(12), House(1, ()))
        # Behind all other errors.
        with self.assertRaises(NoShare):
            tossed(ONE, long_house(12), House(1, ()))

    def test_errors(self):
        for share in WRONG_SHARES + strange():
            for function in (tossed, hidden):
                with self.assertRaises(NoShare):
                    function(share, COIN, COIN)
                with self.assertRaises(NotAlike):
                    function(share, COIN, House(1, ()))
                with self.assertRaises(NotAlike):
                    function(share, House(5, ()), COIN)
        for share in ((1, 10 ** 29), HALF, (10 ** 29 - 1, 10 ** 29)):
            tossed(share, COIN, CLEAR)
            hidden(share, COIN, CLEAR)


def behind(house, number):
    """What stands behind an answer of the first question, as if it stood alone: only its shape counts."""
    return made_house(house.worlds, house.tree[0][number][2])


class Hidden(unittest.TestCase):
    def test_small_ones(self):
        self.assertEqual(hidden(HALF, CLEAR, COIN), House(2, ((((0,), ((7, 8), (1, 8)), ()), ((1,), ((1, 8), (7, 8)), ())),)))
        self.assertEqual(hidden((1, 3), NOTHING, NOTHING), NOTHING)
        self.assertEqual(hidden((1, 3), COIN, COIN), COIN)

    def test_made_up_ones(self):
        for seed in range(100):
            dice = random.Random(seed)
            worlds = 1 + seed % 5
            house = made_up_house(dice, worlds)
            other = led(house, house, made_up_between(dice, house, house))
            share = pair(split(dice, 1, 2)[0] / 2 + (chance((1, 10 ** 29))))
            made = hidden(share, house, other)
            self.assertTrue(is_shaped(made, house))
            for path in paths(house):
                self.assertEqual(list(map(chance, weights_at(made, path))), [
                    chance(share) * chance(one) + (1 - chance(share)) * chance(two)
                    for one, two in zip(weights_at(house, path), weights_at(other, path))
                ])

    def test_not_shaped(self):
        renamed = House(2, ((((0,), ((3, 4), (1, 4)), ()), ((2,), ((1, 4), (3, 4)), ())),))
        for other in (NOTHING, renamed, House(2, COIN.tree * 2), begun(COIN), House(2, (even(1, worlds=2),))):
            with self.assertRaises(NotShaped):
                hidden(HALF, COIN, other)
            with self.assertRaises(NotShaped):
                hidden(HALF, other, COIN)
            with self.assertRaises(NoShare):
                hidden(ONE, other, COIN)

    def test_houses_that_functions_made(self):
        wide = wide_house(3000)
        self.assertEqual(hidden(HALF, wide, wide), wide)
        long = long_house(12)
        self.assertEqual(hidden(HALF, long, long), long)


class EighthFact(unittest.TestCase):
    def test_rooms(self):
        for seed in range(100):
            dice = random.Random(seed)
            worlds = 1 + seed % 3
            house, other = made_up_house(dice, worlds, 2, 2, 2), made_up_house(dice, worlds, 2, 2, 2)
            third = made_up_house(dice, worlds, 1, 2, 2)
            share = pair(split(dice, 1, 2)[0] / 2 + chance((1, 4)))
            less = led(house, other, made_up_between(dice, house, other))
            self.assertIs(can_stand(tossed(share, house, third), tossed(share, less, third)), True)
            if size(house) + size(other) < 16:
                self.assertIs(can_stand(beside(house, third), beside(less, third)), True)
                self.assertIs(can_stand(beside(house, third), house), True)
            shaped = led(house, house, made_up_between(dice, house, house))
            self.assertIs(can_stand(tossed(share, house, shaped), hidden(share, house, shaped)), True)

    def test_arguments_stay_and_equal_calls_give_equal_answers(self):
        rows = []
        for dice in (random.Random(5), random.Random(5)):
            house, other = made_up_house(dice, 2, 1), made_up_house(dice, 2, 1)
            rows.append((house, other, beside(house, other), tossed(HALF, house, other), hidden(HALF, house, house)))
        self.assertEqual(*rows)


if __name__ == "__main__":
    unittest.main()
