"""[8.3], and of [8.4] what it says of torn."""

import random
import unittest
from fractions import Fraction

from tellsless.deciding import are_alike, can_stand
from tellsless.errors import NoNumber, TooLarge
from tellsless.houses import House, begun, made_house, node_at, paths, rounds, weights_at
from tellsless.looks import gathered
from tellsless.tearing import torn
from tests.things import (
    CLEAR, COIN, HALF, NOUGHT, ONE, chain, chance, even, full_house, made_up_house, made_up_look, nested, strange,
)

NOTHING = House(2, ())


def replayed(house, times, path):
    """What a path of the torn house comes to: the way that stands, the cuts that are left, the weights; None for no path."""
    way, cuts = (), times
    weights = [Fraction(1)] * house.worlds
    for question, answer in path:
        node = node_at(house, way)
        if question < len(node):
            before = weights_at(house, way)
            way += ((question, answer),)
            for world, (old, new) in enumerate(zip(before, weights_at(house, way))):
                weights[world] *= chance(new) / chance(old) if old != NOUGHT else 0
        elif question == len(node) and answer == 0 and cuts > 0 and way:
            way = way[:-1]
            cuts -= 1
        else:
            return None
    return way, cuts, weights


def answers_torn(house, times, way=()):
    """How many answers there are behind a way that stands, if so many cuts are left."""
    many = 0
    for question, answers in enumerate(node_at(house, way)):
        for answer in range(len(answers)):
            many += 1 + answers_torn(house, times, way + ((question, answer),))
    if times and way:
        many += 1 + answers_torn(house, times - 1, way[:-1])
    return many


def rounds_torn(house, times, way=()):
    rows = [0]
    for question, answers in enumerate(node_at(house, way)):
        rows.extend(1 + rounds_torn(house, times, way + ((question, answer),)) for answer in range(len(answers)))
    if times and way:
        rows.append(1 + rounds_torn(house, times - 1, way[:-1]))
    return max(rows)


class Torn(unittest.TestCase):
    def check(self, house, times):
        made = torn(house, times)
        self.assertEqual(made.worlds, house.worlds)
        for path in paths(made):
            way, cuts, weights = replayed(house, times, path)
            self.assertEqual(list(map(chance, weights_at(made, path))), weights)
            node, old = node_at(made, path), node_at(house, way)
            self.assertEqual(len(node), len(old) + int(cuts > 0 and way != ()))
            for question, before in zip(node, old):
                self.assertEqual([answer[0] for answer in question], [answer[0] for answer in before])
            if len(node) > len(old):
                self.assertEqual(len(node[-1]), 1)
                self.assertEqual(node[-1][0][:2], ((), weights_at(made, path)))
        self.assertEqual(len(paths(made)) - 1, answers_torn(house, times))
        self.assertEqual(rounds(made), rounds_torn(house, times))
        return made

    def test_one_cut_of_a_coin(self):
        self.assertEqual(self.check(COIN, 1), House(2, ((
            ((0,), ((3, 4), (1, 4)), ((((), ((3, 4), (1, 4)), ((
                ((0,), ((9, 16), (1, 16)), ()), ((1,), ((3, 16), (3, 16)), ()),
            ),)),),)),
            ((1,), ((1, 4), (3, 4)), ((((), ((1, 4), (3, 4)), ((
                ((0,), ((3, 16), (3, 16)), ()), ((1,), ((1, 16), (9, 16)), ()),
            ),)),),)),
        ),)))

    def test_several_cuts(self):
        for times in range(4):
            self.check(COIN, times)
            self.check(CLEAR, times)
            self.check(House(2, COIN.tree + CLEAR.tree), times)
            self.check(House(1, chain(3)), times)
            self.assertEqual(self.check(NOTHING, times), NOTHING)
            self.assertEqual(torn(House(5, ()), times), House(5, ()))

    def test_no_cut(self):
        for seed in range(60):
            house = made_up_house(random.Random(seed), 1 + seed % 5, 3, 2, 3, seed % 7 == 0)
            self.assertEqual(torn(house, 0), house)

    def test_an_answer_that_was_taken_back_is_no_way_to_cut_once_more(self):
        twice = torn(COIN, 2)
        # Behind the cut one stands at the tree, where there is nothing to cut.
        self.assertEqual(len(node_at(twice, ((0, 0),))), 1)
        self.assertEqual(len(node_at(twice, ((0, 0), (0, 0)))), 1)
        self.assertEqual(node_at(twice, ((0, 0), (0, 0)))[0][0][0], (0,))
        two = torn(House(1, chain(2)), 2)
        # Both answers of a way may be taken back, one after another.
        self.assertEqual(len(node_at(two, ((0, 0), (0, 0)))), 1)
        self.assertEqual(len(node_at(two, ((0, 0), (0, 0), (0, 0)))), 2)
        self.assertEqual(len(node_at(two, ((0, 0), (0, 0), (0, 0), (1, 0)))), 1)

    def test_answers_that_come_in_some_worlds_alone(self):
        made = self.check(CLEAR, 1)
        # Who was told of world 0, and asks anew, is told of world 0 in it; in the other one nothing comes.
        behind = ((0, 0), (0, 0))
        self.assertEqual(weights_at(made, behind + ((0, 0),)), (ONE, NOUGHT))
        self.assertEqual(weights_at(made, behind + ((0, 1),)), (NOUGHT, NOUGHT))
        half = House(2, ((((0,), (HALF, NOUGHT), ()), ((1,), (HALF, ONE), ())),))
        made = self.check(half, 1)
        self.assertEqual(weights_at(made, ((0, 1), (0, 0), (0, 1))), ((1, 4), ONE))
        self.assertEqual(weights_at(made, ((0, 1), (0, 0), (0, 0))), ((1, 4), NOUGHT))
        never = House(2, ((((0,), (ONE, ONE), ()), ((1,), (NOUGHT, NOUGHT), ((((), (NOUGHT, NOUGHT), ()),),))),))
        for times in range(4):
            self.check(never, times)

    def test_made_up_ones(self):
        done = 0
        for seed in range(150):
            dice = random.Random(seed)
            house = made_up_house(dice, 1 + seed % 5, 3, 2, 2, seed % 7 == 0)
            for times in range(4):
                if rounds_torn(house, times) <= 12 and answers_torn(house, times) <= 500:
                    self.check(house, times)
                    done += 1
        self.assertGreater(done, 300)

    def test_too_large(self):
        told = {True: 0, False: 0}
        for first in range(1, 13):
            for times in range(1, 4):
                for house in (House(1, (even(first),)), House(1, (even(first), even(first))), House(1, chain(min(first, 8)))):
                    if rounds_torn(house, times) <= 12 and answers_torn(house, times) <= 3000:
                        self.check(house, times)
                        told[True] += 1
                    else:
                        with self.assertRaises(TooLarge):
                            torn(house, times)
                        told[False] += 1
        self.assertTrue(told[True] > 50 and told[False] > 5)
        # So many answers at once: m + m + m * m with one cut.
        for many, is_right in ((53, True), (54, False)):
            house = made_house(1, (even(many),))
            if is_right:
                self.assertEqual(len(paths(torn(house, 1))) - 1, 2 * many + many * many)
            else:
                with self.assertRaises(TooLarge):
                    torn(house, 1)
        wide = made_house(1, (even(3000),))
        self.assertEqual(torn(wide, 0), wide)
        with self.assertRaises(TooLarge):
            torn(wide, 1)
        long = made_house(1, ((((), (ONE,), made_house(1, ((((), (ONE,), House(1, chain(8)).tree),),)).tree),),))
        self.assertEqual(rounds(long), 10)
        self.assertEqual(rounds(torn(long, 1)), 12)
        with self.assertRaises(TooLarge):
            torn(long, 2)
        for times in range(1, 4):
            with self.assertRaises(TooLarge):
                torn(made_house(1, ((((), (ONE,), long.tree),),)), times)

    def test_numbers(self):
        for house in (COIN, NOTHING, made_house(1, (even(3000),))):
            for thing in [4, -1, 10 ** 29, True, False, None, "1", (1,), [1], nested(120)] + strange():
                with self.assertRaises(NoNumber):
                    torn(house, thing)

    def test_houses_that_functions_made(self):
        for house in (begun(COIN), torn(COIN, 1), begun(torn(CLEAR, 1))):
            for times in range(3):
                self.check(house, times)


class EighthFact(unittest.TestCase):
    def test_more_cuts_tell_no_less(self):
        for seed in range(40):
            dice = random.Random(seed)
            house = made_up_house(dice, 1 + seed % 3, 2, 1, 2)
            for times in range(3):
                self.assertIs(can_stand(torn(house, times), house), True)
                for fewer in range(times):
                    self.assertIs(can_stand(torn(house, times), torn(house, fewer)), True)
        for times in range(4):
            for fewer in range(times):
                self.assertIs(can_stand(torn(COIN, times), torn(COIN, fewer)), True)
                self.assertIs(can_stand(torn(COIN, fewer), torn(COIN, times)), False)

    def test_e08(self):
        self.assertIs(are_alike(torn(CLEAR, 1), CLEAR), True)
        self.assertIs(can_stand(COIN, torn(COIN, 1)), False)

    def test_looks_to_which_a_cut_adds_nothing(self):
        told = {True: 0, False: 0}
        for seed in range(250):
            dice = random.Random(seed)
            look = made_up_look(dice, 1 + seed % 4, 3) if seed % 3 else full_house(dice, 1 + seed % 4, 1, 1, 2)
            if seed % 5 == 0:
                look = House(look.worlds, (sure_answers(dice, look.worlds),))
            plain = all(
                sum(answer[1][world] != NOUGHT for answer in gathered(look).tree[0]) == 1 for world in range(look.worlds)
            )
            self.assertIs(are_alike(torn(look, 1), look), plain)
            told[plain] += 1
        self.assertTrue(told[True] > 30 and told[False] > 30)

    def test_arguments_stay_and_equal_calls_give_equal_answers(self):
        rows = []
        for dice in (random.Random(5), random.Random(5)):
            house = made_up_house(dice, 2, 2)
            rows.append((house, torn(house, 1)))
        self.assertEqual(*rows)


def sure_answers(dice, worlds):
    """A question that tells in each world one answer surely."""
    told = [dice.randrange(3) for _ in range(worlds)]
    return tuple(((number,), tuple(ONE if at == number else NOUGHT for at in told), ()) for number in range(3))


if __name__ == "__main__":
    unittest.main()
