"""Part 5: the main fact and the second fact."""

import random
import unittest
from fractions import Fraction

from tellsless import deciding
from tellsless.deciding import are_alike, can_stand, decided
from tellsless.errors import NotAlike
from tellsless.errands import Errand
from tellsless.figures import whole_figures
from tellsless.grounds import Ground
from tellsless.houses import House, begun, hopeful, made_house, paths
from tellsless.plans import is_between, led, passing
from tellsless.prices import best_paid, is_against
from tellsless.referees import paid
from tellsless.refining import simple_bottom
from tellsless.refuting import Refuting
from tellsless.settling import settled_amounts
from tests.things import (
    CLEAR, COIN, HALF, NOUGHT, ONE, chance, even, full_house, made_up_between, made_up_house, made_up_look, pair, teller,
)

NOTHING = House(2, ())
# With one half it tells the world, otherwise that it does not.
ERASED = House(2, ((((0,), (HALF, NOUGHT), ()), ((1,), (NOUGHT, HALF), ()), ((2,), (HALF, HALF), ())),))
# With one half it may be asked for the world, and then tells it.
LATE = House(2, ((
    ((0,), (HALF, HALF), ((((0,), (HALF, NOUGHT), ()), ((1,), (NOUGHT, HALF), ())),)),
    ((1,), (HALF, HALF), ()),
),))


def coin_of(top, bottom):
    right = pair(Fraction(top, bottom))
    wrong = pair(1 - Fraction(top, bottom))
    return House(2, ((((0,), (right, wrong), ()), ((1,), (wrong, right), ())),))


def rare_node(dice, ahead, deep):
    """A node by chance, with answers that come with a chance of 1 of 10 ** 29, or 1 of 3, or otherwise."""
    if deep == 0:
        return ()
    node = []
    for _ in range(dice.randrange(3)):
        many = dice.randrange(1, 4)
        rows = []
        for before in ahead:
            part = Fraction(1, dice.choice((3, 10 ** 29)))
            row = [Fraction(0)] * many
            row[dice.randrange(many)] += before * part
            row[dice.randrange(many)] += before * (1 - part)
            # A House that is made by its name has numbers of at most 30 figures.
            rows.append(row if all(weight.denominator < 10 ** 30 for weight in row) else [before] + [Fraction(0)] * (many - 1))
        node.append(tuple(
            ((number,), tuple(map(pair, weights)), rare_node(dice, weights, deep - 1))
            for number, weights in enumerate(zip(*rows))
        ))
    return tuple(node)


def small(house, other, most=1500):
    return len(paths(house)) * len(paths(other)) < most


class MainFact(unittest.TestCase):
    def check(self, house, other, wanted=None):
        """Looks at what is decided; tells whether the house can stand for the other one."""
        found = decided(house, other)
        self.assertIs(type(found), tuple)
        stands = found[0] == "between"
        if stands:
            self.assertEqual(len(found), 2)
            self.assertIs(is_between(house, other, found[1]), True)
        else:
            self.assertEqual((found[0], len(found)), ("against", 3))
            self.assertIs(is_against(house, other, found[1:]), True)
            self.assertLess(chance(best_paid(house, other, found[1])), chance(paid(other, found[1])))
        self.assertIs(can_stand(house, other), stands)
        if wanted is not None:
            self.assertIs(stands, wanted)
        return stands

    def both(self, house, other, first, second):
        self.check(house, other, first)
        self.check(other, house, second)
        self.assertIs(are_alike(house, other), first and second)
        self.assertIs(are_alike(other, house), first and second)

    def test_e04(self):
        self.assertIs(can_stand(CLEAR, COIN), True)
        self.assertIs(can_stand(COIN, CLEAR), False)
        self.assertEqual(decided(COIN, CLEAR)[0], "against")

    def test_coins(self):
        for first in range(6, 13):
            for second in range(6, 13):
                self.both(coin_of(first, 12), coin_of(second, 12), first >= second, first <= second)
        # By 1 of 10 ** 29 less.
        self.both(coin_of(10 ** 29 - 1, 10 ** 29), coin_of(10 ** 29 - 2, 10 ** 29), True, False)
        self.both(CLEAR, coin_of(10 ** 29 - 1, 10 ** 29), True, False)

    def test_houses_without_questions(self):
        self.both(NOTHING, NOTHING, True, True)
        self.both(COIN, NOTHING, True, False)
        self.both(LATE, NOTHING, True, False)
        self.both(NOTHING, House(2, (even(3, worlds=2), even(2, worlds=2))), True, True)

    def test_selection_counts(self):
        # Who was told that nothing comes goes where nothing is asked.
        self.both(ERASED, LATE, True, True)
        self.both(ERASED, COIN, True, False)
        self.both(LATE, COIN, True, False)
        # With the chance 1/2 the world, otherwise nothing: less than asking for it always.
        sure = House(2, ((((0,), (ONE, ONE), CLEAR.tree),),))
        self.both(sure, CLEAR, True, True)
        self.both(sure, LATE, True, False)

    def test_houses_that_tell_the_world(self):
        for worlds in range(1, 6):
            clear = teller(worlds)
            for seed in range(8):
                house = made_up_house(random.Random(seed), worlds, 3, 2, 3)
                self.check(clear, house, True)
                self.check(house, clear)
            self.check(House(worlds, ()), clear, worlds == 1)
            self.check(House(worlds, clear.tree * 2), clear, True)

    def test_worlds_told_apart_by_two_questions(self):
        def tells(world):
            yes = tuple(ONE if other == world else NOUGHT for other in range(3))
            no = tuple(NOUGHT if other == world else ONE for other in range(3))
            return (((0,), no, ()), ((1,), yes, ()))
        two = House(3, (tells(0), tells(1)))
        one = House(3, (tells(0),))
        behind = House(3, ((tells(0)[0][:2] + ((tells_behind(tells(1), tells(0)[0][1])),), tells(0)[1]),))
        # One round of two questions is less than both one behind the other.
        self.both(two, one, True, False)
        self.both(behind, two, True, False)
        self.both(behind, teller(3), True, True)
        self.both(two, teller(3), False, True)

    def test_hopeless_answers(self):
        never = House(2, ((
            ((0,), (ONE, NOUGHT), ()),
            ((1,), (NOUGHT, NOUGHT), ((((0,), (NOUGHT, NOUGHT), ()), ((1,), (NOUGHT, NOUGHT), ())),)),
            ((2,), (NOUGHT, ONE), ()),
        ),))
        self.both(never, CLEAR, True, True)
        self.both(never, COIN, True, False)
        behind = House(2, ((
            ((0,), (NOUGHT, NOUGHT), ()),
            ((1,), (ONE, ONE), COIN.tree),
        ),))
        self.both(behind, COIN, True, True)
        self.both(behind, CLEAR, False, True)
        self.both(NOTHING, never, False, True)

    def test_answers_that_never_come_in_a_world(self):
        # A coin may err; what it would tell never comes in one of both worlds.
        half = House(2, ((((0,), (HALF, NOUGHT), ()), ((1,), (HALF, ONE), ())),))
        self.both(COIN, half, False, False)
        self.both(CLEAR, half, True, False)
        self.both(half, NOTHING, True, False)

    def test_drawn_houses(self):
        told = {True: 0, False: 0}
        for seed in range(500):
            dice = random.Random(seed)
            worlds, great = dice.randrange(1, 6), seed % 10 == 0
            house = made_up_house(dice, worlds, dice.randrange(4), 2, 3, great)
            other = made_up_house(dice, worlds, dice.randrange(4), 2, 3, great)
            if small(house, other, 150 if great else 1500):
                told[self.check(house, other)] += 1
        self.assertTrue(told[True] > 50 and told[False] > 50)

    def test_houses_that_are_led(self):
        for seed in range(300):
            dice = random.Random(seed)
            worlds, great = dice.randrange(1, 6), seed % 10 == 0
            house = made_up_house(dice, worlds, dice.randrange(1, 4), 2, 3, great)
            other = made_up_house(dice, worlds, dice.randrange(1, 4), 2, 3, great)
            if small(house, other, 150 if great else 1200):
                self.check(house, led(house, other, made_up_between(dice, house, other, 4)), True)
                self.check(house, led(house, house, made_up_between(dice, house, house)), True)

    def test_full_houses(self):
        for deep, questions, answers, worlds in ((1, 1, 12, 5), (1, 3, 4, 3), (2, 1, 3, 2), (2, 2, 2, 3), (3, 1, 2, 4), (2, 2, 3, 2)):
            for seed in range(4):
                dice = random.Random(seed)
                house = full_house(dice, worlds, deep, questions, answers)
                other = full_house(dice, worlds, deep, questions, answers)
                self.check(house, other)
                self.check(house, led(house, other, made_up_between(dice, house, other, 6)), True)

    def test_great_fractions(self):
        for deep, questions, answers, worlds in ((1, 1, 4, 3), (2, 1, 2, 2), (2, 2, 2, 2)):
            for seed in range(3):
                dice = random.Random(seed)
                house = full_house(dice, worlds, deep, questions, answers, True)
                other = full_house(dice, worlds, deep, questions, answers, True)
                self.check(house, other)
                self.check(house, led(house, other, made_up_between(dice, house, other, 2)), True)
                self.check(house, house, True)

    def test_very_small_chances(self):
        tiny = (1, 10 ** 29)
        rest = (10 ** 29 - 1, 10 ** 29)
        rare = House(2, ((((0,), (tiny, NOUGHT), ()), ((1,), (NOUGHT, tiny), ()), ((2,), (rest, rest), ())),))
        self.both(CLEAR, rare, True, False)
        self.both(rare, NOTHING, True, False)
        self.both(rare, COIN, False, False)
        twice = House(2, ((
            ((0,), (tiny, tiny), ((((0,), (tiny, NOUGHT), ()), ((1,), (NOUGHT, tiny), ())),)),
            ((1,), (rest, rest), ()),
        ),))
        self.both(rare, twice, True, True)

    def test_drawn_houses_of_very_small_chances(self):
        for seed in range(250):
            dice = random.Random(seed)
            worlds = dice.randrange(1, 5)
            house = House(worlds, rare_node(dice, [Fraction(1)] * worlds, dice.randrange(1, 4)))
            other = House(worlds, rare_node(dice, [Fraction(1)] * worlds, dice.randrange(1, 4)))
            if small(house, other):
                self.check(house, other)
                self.check(house, led(house, other, made_up_between(dice, house, other, 4)), True)
                self.check(house, led(house, house, made_up_between(dice, house, house, 4)), True)

    def test_a_house_in_which_much_is_rounded(self):
        tiny, rest = Fraction(1, 10 ** 29), 1 - Fraction(1, 10 ** 29)
        never, sure = (NOUGHT,) * 4, (NOUGHT, NOUGHT, pair(rest), NOUGHT)
        twice = (((0,), sure, ()), ((1,), never, ()))
        house = House(4, ((
            ((0,), sure, (twice, twice)),
            ((1,), (ONE, ONE, pair(tiny), ONE), ((
                ((0,), (ONE, ONE, pair(tiny / 3), (1, 3)), ()),
                ((1,), (NOUGHT, NOUGHT, pair(tiny * 2 / 3), (2, 3)), ()),
            ),)),
        ),))
        first, second = (HALF, HALF, pair(tiny / 6), (1, 6)), (NOUGHT, NOUGHT, pair(tiny * 2 / 3), (2, 3))
        last = (HALF, HALF, pair(1 - tiny * 5 / 6), (1, 6))
        other = made_house(4, ((
            ((0,), first, ((((0,), never, ()), ((1,), first, ())), (((0,), first, ()), ((1,), never, ())))),
            ((1,), (HALF, HALF, pair(1 - tiny / 6), (5, 6)), ((((0,), second, ()), ((1,), last, ())),)),
        ),))
        self.check(house, other, True)

    def test_rounding_does_not_lead_astray(self):
        before = deciding.FIRST_BITS
        try:
            for bits in (2, 8, 30):
                deciding.FIRST_BITS = bits
                for seed in range(20):
                    dice = random.Random(seed)
                    house = full_house(dice, 2 + seed % 3, 1 + seed % 2, 1, 3, seed % 8 == 0)
                    other = full_house(dice, 2 + seed % 3, 1 + seed % 2, 1, 3, seed % 8 == 0)
                    self.check(house, other)
                    self.check(house, led(house, other, made_up_between(dice, house, other, 3)), True)
        finally:
            deciding.FIRST_BITS = before

    def test_simple_bottoms(self):
        for top, bottom in ((0, 1), (1, 1), (1, 2), (2, 3), (355, 1130), (1, 10 ** 9), (10 ** 9 - 1, 10 ** 9)):
            fraction = Fraction(top, bottom)
            for bits in (80, 200):
                for wrong in (-1, 0, 1):
                    near = (int(fraction * 2 ** bits) + wrong) % 2 ** bits
                    self.assertEqual(simple_bottom(near, bits), fraction.denominator)

    def test_what_is_nearly_met_is_not_settled(self):
        # The first coin tells too little by 1 of 10 ** 29: with few bits that is not seen.
        less, more = coin_of(6 * 10 ** 28, 10 ** 29), coin_of(6 * 10 ** 28 + 1, 10 ** 29)
        errand = Errand(Ground(less), (), 0, more.tree[0])
        refuting = Refuting(errand, 64)
        refuting.run(100)
        self.assertTrue(refuting.mixture.is_met())
        self.assertIs(settled_amounts(refuting.mixture, whole_figures(errand)), None)
        self.both(less, more, False, True)

    def test_houses_that_functions_made(self):
        wide = made_house(2, (even(200, worlds=2),))
        self.both(wide, NOTHING, True, True)
        self.both(wide, COIN, False, True)
        for house in (COIN, LATE, ERASED):
            self.both(begun(house), house, True, True)
            self.both(begun(begun(house)), hopeful(house), True, True)
        long = COIN
        for _ in range(11):
            long = begun(long)
        self.both(long, COIN, True, True)

    def test_unlike_numbers_of_worlds(self):
        for first in range(1, 6):
            for second in range(1, 6):
                for function in (decided, can_stand, are_alike):
                    if first != second:
                        with self.assertRaises(NotAlike):
                            function(teller(first), House(second, ()))
                    else:
                        function(teller(first), House(second, ()))

    def test_arguments_stay_and_equal_calls_give_equal_answers(self):
        rows = []
        for dice in (random.Random(3), random.Random(3)):
            house, other = made_up_house(dice, 2), made_up_house(dice, 2)
            rows.append((house, other, decided(house, other), can_stand(house, other), are_alike(house, other)))
        self.assertEqual(*rows)


def tells_behind(question, ahead):
    """A question whose weights are NOUGHT where those ahead are."""
    return (tuple((word, tuple(NOUGHT if now == NOUGHT else weight for now, weight in zip(ahead, weights)), node)
                  for word, weights, node in question),)


class SecondFact(unittest.TestCase):
    def test_a_house_stands_for_itself(self):
        for seed in range(150):
            dice = random.Random(seed)
            house = made_up_house(dice, 1 + seed % 5, 3, 2, 3, seed % 4 == 0)
            self.assertIs(can_stand(house, house), True)
            self.assertIs(can_stand(house, House(house.worlds, house.tree)), True)
            self.assertIs(is_between(house, house, decided(house, house)[1]), True)
            for other in (hopeful(house), begun(house), renamed(house)):
                self.assertIs(can_stand(house, other), True)
                self.assertIs(can_stand(other, house), True)

    def test_chains_of_three(self):
        done = 0
        for seed in range(200):
            dice = random.Random(seed)
            worlds = dice.randrange(2, 4)
            rows = [made_up_house(dice, worlds, 2, 2, 2) for _ in range(3)]
            second = led(rows[0], rows[1], made_up_between(dice, rows[0], rows[1]))
            third = led(second, rows[2], made_up_between(dice, second, rows[2]))
            self.assertIs(can_stand(rows[0], third), True)
            self.assertIs(can_stand(second, third), True)
            if can_stand(rows[1], rows[0]):
                self.assertIs(can_stand(rows[1], third), True)
                done += 1
            if not can_stand(rows[0], rows[1]):
                self.assertIs(can_stand(second, rows[1]), False)
        self.assertGreater(done, 10)

    def test_drawn_chains(self):
        done = 0
        for seed in range(300):
            dice = random.Random(seed)
            rows = [made_up_look(dice, 2, 3) for _ in range(3)]
            for first in rows:
                for second in rows:
                    for third in rows:
                        if can_stand(first, second) and can_stand(second, third):
                            self.assertIs(can_stand(first, third), True)
                            done += 1
        self.assertGreater(done, 300)

    def test_a_house_that_tells_nothing(self):
        silent = House(3, (
            even(2, worlds=3),
            ((((0,), ((1, 3),) * 3, ((((), ((1, 3),) * 3, ()),), (((1,), ((1, 4),) * 3, ()), ((2,), ((1, 12),) * 3, ()))))),
             ((1,), ((2, 3),) * 3, ())),
        ))
        for seed in range(30):
            house = made_up_house(random.Random(seed), 3, 2, 2, 3)
            self.assertIs(can_stand(house, silent), True)
            self.assertIs(is_between(house, silent, decided(house, silent)[1]), True)
        self.assertIs(can_stand(House(3, ()), silent), True)


def renamed(house):
    """The house with its questions the other way round."""
    def node(inner):
        return tuple(tuple((word, weights, node(behind)) for word, weights, behind in question) for question in inner[::-1])
    return House(house.worlds, node(house.tree))


if __name__ == "__main__":
    unittest.main()
