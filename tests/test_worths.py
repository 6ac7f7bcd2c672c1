"""Of Part 6 the points [6.1] and [6.3], and the third and the fifth fact."""

import random
import unittest
from fractions import Fraction
from itertools import product

from tellsless.errors import NoAsker, NoGains, NoPrior
from tellsless.houses import House, begun, made_house, paths
from tellsless.plans import led
from tellsless.ratios import is_fraction
from tellsless.worths import asker_gets, best_asker, luck, luckiest, worth, worth_unasked
from tests.things import (
    CLEAR, COIN, HALF, NOUGHT, ONE, chance, even, made_up_between, made_up_house, nested, pair, split, spoiled, strange,
    teller,
)

EVEN = (HALF, HALF)
NAMES = ((ONE, NOUGHT), (NOUGHT, ONE))
HEAR = ("ask", 0, (("stop", 0), ("stop", 1)))
NOTHING = House(2, ())
DEEP = House(2, (
    (
        ((0,), (HALF, (2, 3)), (
            (((0,), ((1, 4), (2, 3)), ()), ((1,), ((1, 4), NOUGHT), ())),
            (((0,), (NOUGHT, (1, 3)), ()), ((1,), (HALF, (1, 3)), ())),
        )),
        ((1,), (HALF, (1, 3)), ()),
    ),
    (((3,), (ONE, NOUGHT), ()), ((4,), (NOUGHT, ONE), ())),
))


def names(worlds):
    """Gains with a deed for each world, which gains ONE there and NOUGHT elsewhere."""
    return tuple(tuple(ONE if world == deed else NOUGHT for world in range(worlds)) for deed in range(worlds))


def made_up_prior(dice, worlds):
    return tuple(map(pair, split(dice, Fraction(1), worlds)))


def made_up_gains(dice, worlds, least=-9):
    return tuple(
        tuple(pair(Fraction(dice.randrange(least, 10), dice.randrange(1, 5))) for _ in range(worlds))
        for _ in range(dice.randrange(1, 4))
    )


def all_askers(node, deeds):
    """All askers at a node."""
    askers = [("stop", deed) for deed in range(deeds)]
    for number, question in enumerate(node):
        for inner in product(*[all_askers(answer[2], deeds) for answer in question]):
            askers.append(("ask", number, inner))
    return askers


def askers_many(node, deeds):
    many = deeds
    for question in node:
        inner = 1
        for answer in question:
            inner *= askers_many(answer[2], deeds)
        many += inner
    return many


def gets(node, weights, prior, gains, asker):
    """What an asker gets, as [6.1] tells it."""
    if asker[0] == "stop":
        return sum(chance(p) * chance(w) * chance(g) for p, w, g in zip(prior, weights, gains[asker[1]]))
    return sum(gets(answer[2], answer[1], prior, gains, inner) for answer, inner in zip(node[asker[1]], asker[2]))


def luck_of(node, weights):
    """The luck at a node, as [6.3] tells it."""
    rows = [sum(luck_of(answer[2], answer[1]) for answer in question) for question in node]
    return max([max(map(chance, weights))] + rows)


class AskerGets(unittest.TestCase):
    def test_small_ones(self):
        self.assertEqual(asker_gets(COIN, EVEN, NAMES, HEAR), (3, 4))
        self.assertEqual(asker_gets(COIN, EVEN, NAMES, ("stop", 0)), HALF)
        self.assertEqual(asker_gets(COIN, ((1, 3), (2, 3)), NAMES, ("stop", 1)), (2, 3))
        self.assertEqual(asker_gets(COIN, EVEN, NAMES, ("ask", 0, (("stop", 1), ("stop", 0)))), (1, 4))
        self.assertEqual(asker_gets(NOTHING, EVEN, (((-5, 1), (3, 1)),), ("stop", 0)), (-1, 1))
        asker = ("ask", 0, (("ask", 1, (("stop", 1), ("stop", 0))), ("stop", 0)))
        self.assertEqual(asker_gets(DEEP, EVEN, NAMES, asker), pair(Fraction(1, 2) * (Fraction(1, 3) + Fraction(1, 2) + Fraction(1, 2))))

    def test_made_up_ones(self):
        for seed in range(100):
            dice = random.Random(seed)
            worlds = 1 + seed % 5
            house = made_up_house(dice, worlds, 2, 2, 2, seed % 7 == 0)
            prior, gains = made_up_prior(dice, worlds), made_up_gains(dice, worlds)
            if askers_many(house.tree, len(gains)) < 200:
                for asker in all_askers(house.tree, len(gains)):
                    found = asker_gets(house, prior, gains, asker)
                    self.assertTrue(is_fraction(found))
                    self.assertEqual(chance(found), gets(house.tree, (ONE,) * worlds, prior, gains, asker))

    def test_wrong_askers(self):
        right = [HEAR, ("stop", 0), ("stop", 1), ("ask", 0, (("stop", 1), ("stop", 1)))]
        for asker in right:
            asker_gets(COIN, EVEN, NAMES, asker)
            for thing in spoiled(asker, (-1, 2, 99)):
                if thing not in right:
                    self.wrong(COIN, NAMES, thing)
        for thing in (("stop",), ("stop", 2), ("stop", -1), ("stop", True), ("stop", 0, ()), ("ask", 0), ("ask", 1, HEAR[2]),
                      ("ask", 0, HEAR[2][:1]), ("ask", 0, HEAR[2] * 2), ("ask", False, HEAR[2]), ("ask", 0, list(HEAR[2])),
                      ("ask", 0, (HEAR, HEAR)), ("tell", 0), (b"stop", 0), ["stop", 0], ("ask", 0, HEAR[2], ())):
            self.wrong(COIN, NAMES, thing)
        self.wrong(COIN, NAMES[:1], ("stop", 1))
        self.wrong(NOTHING, NAMES, HEAR)
        self.wrong(DEEP, NAMES, ("ask", 2, HEAR[2]))
        for thing in strange():
            for asker in (thing, ("stop", thing), (thing, 0), ("ask", thing, HEAR[2]), ("ask", 0, thing),
                          ("ask", 0, (("stop", 0), thing)), ("ask", 0, (("stop", 0), ("stop", thing)))):
                self.wrong(COIN, NAMES, asker)

    def test_deep_things(self):
        asker = ("stop", 0)
        for deep in range(1, 58):
            asker = ("ask", 0, (asker, asker))
            if deep > 1:
                self.wrong(COIN, NAMES, asker)
        for inner in ((), 5, None):
            self.wrong(COIN, NAMES, nested(120, inner))

    def wrong(self, house, gains, asker):
        with self.assertRaises(NoAsker):
            asker_gets(house, EVEN, gains, asker)


class Errors(unittest.TestCase):
    def functions(self):
        """All functions that take a prior and gains: pairs of the function and its order of errors."""
        return (
            lambda prior, gains: asker_gets(COIN, prior, gains, None),
            lambda prior, gains: worth(COIN, prior, gains),
            lambda prior, gains: best_asker(COIN, prior, gains),
        )

    def test_priors_come_first(self):
        wrong = [(ONE,), (HALF, HALF, NOUGHT), (HALF, NOUGHT), (ONE, ONE), ((3, 2), (-1, 2)), (HALF, (2, 4)), [HALF, HALF],
                 (True, NOUGHT), ((True, 1), NOUGHT), ((1, True), NOUGHT), (), (1, 0), nested(120), (HALF, nested(119))]
        for prior in wrong + strange():
            for gains in (NAMES, None, nested(120)):
                for function in self.functions():
                    with self.assertRaises(NoPrior):
                        function(prior, gains)
        for prior in spoiled(EVEN, (-1000, 99)):
            for function in self.functions():
                with self.assertRaises(NoPrior):
                    function(prior, NAMES)

    def test_then_gains(self):
        wrong = [(), ((),), ((ONE,),), ((ONE, ONE, ONE),), (ONE, ONE), [NAMES[0]], (list(NAMES[0]),), NAMES + (None,), NAMES[0],
                 ((ONE, (2, 4)),), ((ONE, (1, 0)),), ((ONE, (1, -1)),), ((ONE, (True, 1)),), ((ONE, True),), nested(120)]
        # One deed less or more is right, too.
        worse = [gains for gains in spoiled(NAMES, ()) if gains not in (NAMES[:1], NAMES[1:], NAMES + NAMES[:1])]
        for gains in wrong + strange() + worse:
            for function in self.functions():
                with self.assertRaises(NoGains):
                    function(EVEN, gains)
            with self.assertRaises(NoGains):
                worth_unasked(EVEN, gains)

    def test_then_askers(self):
        with self.assertRaises(NoAsker):
            asker_gets(COIN, EVEN, NAMES, None)

    def test_worth_unasked(self):
        for prior in [(), (NOUGHT,), ((1, 6),) * 6, (ONE,) + (NOUGHT,) * 5, [ONE], (ONE, ONE), (HALF, (1, 3)), (True,), (1,), ONE]:
            for gains in (NAMES, ((ONE,),), None):
                with self.assertRaises(NoPrior):
                    worth_unasked(prior, gains)
        for prior in strange():
            with self.assertRaises(NoPrior):
                worth_unasked(prior, NAMES)
        for worlds in range(1, 6):
            with self.assertRaises(NoGains):
                worth_unasked(((1, worlds),) * worlds, names(6 - worlds) if worlds != 3 else names(2))


class Worth(unittest.TestCase):
    def test_e05(self):
        self.assertEqual(worth(COIN, EVEN, NAMES), (3, 4))
        self.assertEqual(luck(COIN), (3, 2))

    def test_small_ones(self):
        self.assertEqual(worth(CLEAR, EVEN, NAMES), ONE)
        self.assertEqual(worth(NOTHING, EVEN, NAMES), HALF)
        self.assertEqual(worth(COIN, ((9, 10), (1, 10)), NAMES), (9, 10))
        self.assertEqual(worth(COIN, EVEN, (((-1, 1), (-2, 1)),)), (-3, 2))
        self.assertEqual(worth(CLEAR, EVEN, (((-1, 1), (-2, 1)), ((-2, 1), (-1, 1)))), (-1, 1))
        self.assertEqual(worth(COIN, (ONE, NOUGHT), (((0, 1), (10 ** 29, 1)),)), NOUGHT)

    def test_unasked(self):
        for worlds in range(1, 6):
            prior = ((1, worlds),) * worlds
            self.assertEqual(worth_unasked(prior, names(worlds)), (1, worlds))
            self.assertEqual(worth_unasked(prior, (((-3, 7),) * worlds,)), (-3, 7))
        self.assertEqual(worth_unasked(EVEN, (((1, 1), (-2, 1)), ((-1, 1), (-1, 1)), ((0, 1), (0, 1)))), NOUGHT)

    def test_no_asker_gets_more_and_one_gets_so_much(self):
        for seed in range(150):
            dice = random.Random(seed)
            worlds = 1 + seed % 5
            house = made_up_house(dice, worlds, 2, 2, 2, seed % 7 == 0)
            prior, gains = made_up_prior(dice, worlds), made_up_gains(dice, worlds)
            found = worth(house, prior, gains)
            best = best_asker(house, prior, gains)
            self.assertEqual(asker_gets(house, prior, gains, best), found)
            unasked = max(gets((), (ONE,) * worlds, prior, gains, ("stop", deed)) for deed in range(len(gains)))
            self.assertEqual(chance(worth_unasked(prior, gains)), unasked)
            self.assertEqual(worth(House(worlds, ()), prior, gains), worth_unasked(prior, gains))
            self.assertGreaterEqual(chance(found), unasked)
            if askers_many(house.tree, len(gains)) < 400:
                self.assertEqual(chance(found), max(
                    gets(house.tree, (ONE,) * worlds, prior, gains, asker) for asker in all_askers(house.tree, len(gains))
                ))

    def test_third_fact(self):
        for seed in range(150):
            dice = random.Random(seed)
            worlds = 1 + seed % 4
            house, other = made_up_house(dice, worlds, 2), made_up_house(dice, worlds, 2)
            other = led(house, other, made_up_between(dice, house, other))
            for _ in range(3):
                prior, gains = made_up_prior(dice, worlds), made_up_gains(dice, worlds)
                self.assertGreaterEqual(chance(worth(house, prior, gains)), chance(worth(other, prior, gains)))

    def test_houses_that_functions_made(self):
        wide = made_house(2, (even(2000, worlds=2),))
        self.assertEqual(worth(wide, EVEN, NAMES), HALF)
        self.assertEqual(asker_gets(wide, EVEN, NAMES, best_asker(wide, EVEN, NAMES)), HALF)
        self.assertEqual(worth(begun(COIN), EVEN, NAMES), (3, 4))
        self.assertEqual((luck(wide), luck(begun(COIN))), (ONE, (3, 2)))


class Luck(unittest.TestCase):
    def test_small_ones(self):
        self.assertEqual(luck(NOTHING), ONE)
        for worlds in range(1, 6):
            self.assertEqual(luck(teller(worlds)), (worlds, 1))
            self.assertEqual(luck(House(worlds, ())), ONE)
        # 2/3 + 1/2 by the first question, 1 + 1 by the second one.
        self.assertEqual(luck(DEEP), (2, 1))
        first = House(2, DEEP.tree[:1])
        # Behind the first answer 2/3 + 1/4 by its first question, 1/3 + 1/2 by its other one.
        self.assertEqual(luck(first), pair(Fraction(2, 3) + Fraction(1, 4) + Fraction(1, 2)))
        never = House(2, ((((0,), (ONE, ONE), ()), ((1,), (NOUGHT, NOUGHT), ())),))
        self.assertEqual(luck(never), ONE)

    def test_node_by_node(self):
        for seed in range(150):
            house = made_up_house(random.Random(seed), 1 + seed % 5, 3, 2, 3, seed % 7 == 0)
            self.assertTrue(is_fraction(luck(house)))
            self.assertEqual(chance(luck(house)), luck_of(house.tree, (ONE,) * house.worlds))

    def test_fifth_fact(self):
        for seed in range(150):
            dice = random.Random(seed)
            worlds = 1 + seed % 5
            house = made_up_house(dice, worlds, 3, 2, 3)
            for _ in range(3):
                prior, gains = made_up_prior(dice, worlds), made_up_gains(dice, worlds, 0)
                self.assertLessEqual(
                    chance(worth(house, prior, gains)), chance(luck(house)) * chance(worth_unasked(prior, gains))
                )
            even_prior = ((1, worlds),) * worlds
            most = chance(luck(house)) * chance(worth_unasked(even_prior, names(worlds)))
            self.assertEqual(chance(worth(house, even_prior, names(worlds))), most)
            self.assertEqual(chance(asker_gets(house, even_prior, names(worlds), luckiest(house))), most)

    def test_arguments_stay_and_equal_calls_give_equal_answers(self):
        rows = []
        for dice in (random.Random(5), random.Random(5)):
            house = made_up_house(dice, 3)
            prior, gains = made_up_prior(dice, 3), made_up_gains(dice, 3)
            rows.append((house, prior, gains, worth(house, prior, gains), best_asker(house, prior, gains), luckiest(house)))
        self.assertEqual(*rows)
        self.assertGreater(len(paths(rows[0][0])), 1)


if __name__ == "__main__":
    unittest.main()
