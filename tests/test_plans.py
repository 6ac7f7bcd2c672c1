"""[3.1], [3.2], and of [3.3] passing."""

import random
import unittest
from fractions import Fraction

from tellsless.errors import NotAlike, NotBetween
from tellsless.houses import House, begun, hopeful, is_shaped, made_house, paths, weights_at
from tellsless.plans import is_between, is_plan, led, passing
from tests.things import (
    CLEAR, COIN, HALF, NOUGHT, ONE, chain, even, made_up_between, made_up_house, made_up_wait, nested, pair, spoiled,
    strange,
)

HEAR = ("ask", 0, (("tell", 0, ()), ("tell", 1, ())))
TURN = ("ask", 0, (("tell", 1, ()), ("tell", 0, ())))
NOTHING = House(2, ())
# Two rounds; in the second one two questions behind the first answer, none behind the other one.
DEEP = House(2, (
    (
        ((0,), (HALF, (2, 3)), (
            (((0,), ((1, 4), (2, 3)), ()), ((1,), ((1, 4), NOUGHT), ())),
            (((0,), (NOUGHT, (1, 3)), ()), ((1,), (HALF, (1, 3)), ())),
        )),
        ((1,), (HALF, (1, 3)), ()),
    ),
    (((3,), (ONE, NOUGHT), ()), ((4,), (NOUGHT, ONE), ())),
))


def stands(house, wait, path):
    """The pairs (path of the house, wait) of who holds a plan, right behind telling the last answer of a path."""
    found = [((), house.tree, wait)]
    for question, answer in path:
        after = []
        for place, node, waiting in found:
            after.extend(told(place, node, waiting[question], answer))
        found = after
    return found


def told(place, node, move, answer):
    if move[0] == "tell":
        return [(place, node, move[2])] if move[1] == answer else []
    found = []
    for number, heard in enumerate(node[move[1]]):
        found.extend(told(place + ((move[1], number),), heard[2], move[2][number], answer))
    return found


def reckoned(house, other, between):
    """The weights of each path of the other house, as [3.2] tells them: a dict."""
    weights = {}
    for path in paths(other):
        row = [Fraction(0)] * house.worlds
        for share, plan in between:
            for place, _, _ in stands(house, plan, path):
                for world, weight in enumerate(weights_at(house, place)):
                    row[world] += Fraction(*share) * Fraction(*weight)
        weights[path] = tuple(map(pair, row))
    return weights


class Judged(unittest.TestCase):
    def test_right_plans(self):
        self.assertIs(is_plan(COIN, CLEAR, (HEAR,)), True)
        self.assertIs(is_plan(COIN, CLEAR, (TURN,)), True)
        self.assertIs(is_plan(COIN, CLEAR, (("tell", 0, ()),)), True)
        self.assertIs(is_plan(COIN, CLEAR, (("tell", 1, ()),)), True)
        mixed = ("ask", 0, (("tell", 1, ()), ("tell", 1, ())))
        self.assertIs(is_plan(COIN, CLEAR, (mixed,)), True)
        twice = ("ask", 0, (("ask", 1, HEAR[2]), ("tell", 1, ())))
        self.assertIs(is_plan(DEEP, CLEAR, (twice,)), True)
        # What is asked stays asked: a wait behind telling goes on at the holder's node.
        late = ("ask", 0, (("tell", 0, (("ask", 1, (("tell", 0, ()), ("tell", 0, ()))), ("tell", 1, ()))),
                           ("tell", 1, ())))
        self.assertIs(is_plan(DEEP, DEEP, (late, ("tell", 0, ()))), True)

    def test_without_questions(self):
        for house in (NOTHING, COIN, DEEP):
            self.assertIs(is_plan(house, NOTHING, ()), True)
            for thing in (((),), (("tell", 0, ()),), (HEAR,), []):
                self.assertIs(is_plan(house, NOTHING, thing), False)
        self.assertIs(is_plan(NOTHING, COIN, (("tell", 1, ()),)), True)
        for thing in ((), (HEAR,), (("ask", 0, ()),), (("ask", 0, (("tell", 0, ()),)),), (("tell", 2, ()),)):
            self.assertIs(is_plan(NOTHING, COIN, thing), False)

    def test_numbers_of_moves(self):
        tell = ("tell", 0, ())
        two = House(2, COIN.tree * 2)
        for many in range(5):
            self.assertIs(is_plan(COIN, two, (tell,) * many), many == 2)
            self.assertIs(is_plan(COIN, COIN, (("ask", 0, (tell,) * many),)), many == 2)
            self.assertIs(is_plan(COIN, DEEP, (("tell", 0, (tell,) * many), tell)), many == 2)
        self.assertIs(is_plan(COIN, DEEP, (("tell", 1, ()), tell)), True)
        self.assertIs(is_plan(COIN, DEEP, (("tell", 1, (tell, tell)), tell)), False)

    def test_numbers_beyond(self):
        for number in range(-3, 14):
            self.assertIs(is_plan(COIN, CLEAR, (("tell", number, ()),)), number in (0, 1))
            self.assertIs(is_plan(COIN, CLEAR, (("ask", number, HEAR[2]),)), number == 0)
            self.assertIs(is_plan(DEEP, CLEAR, (("ask", number, HEAR[2]),)), number in (0, 1))
        self.assertIs(is_plan(COIN, CLEAR, (("tell", 10 ** 29, ()),)), False)
        # At the end of the house no question is left.
        self.assertIs(is_plan(COIN, CLEAR, (("ask", 0, (HEAR, HEAR)),)), False)
        # The holder stands behind the first answer now, where there are two questions of two answers.
        self.assertIs(is_plan(DEEP, CLEAR, (("ask", 0, (HEAR, ("tell", 0, ()))),)), True)
        self.assertIs(is_plan(DEEP, CLEAR, (("ask", 0, (HEAR, HEAR)),)), False)

    def test_flags_and_other_words(self):
        for thing in (("tell", False, ()), ("tell", True, ()), ("ask", False, HEAR[2]), ("ask", None, HEAR[2]),
                      ("TELL", 0, ()), ("ask", 0, ()), ("told", 0, ()), ("", 0, ()), (b"tell", 0, ()), (0, 0, ()),
                      ("tell", "0", ()), ("tell", 0, None), ("tell", 0), ("tell", 0, (), ()), ("tell",), (), "tell"):
            self.assertIs(is_plan(COIN, CLEAR, (thing,)), False, thing)

    def test_each_way_to_spoil_one(self):
        dice = random.Random(1)
        for house, other in ((COIN, CLEAR), (DEEP, COIN), (COIN, DEEP), (DEEP, DEEP), (NOTHING, DEEP), (DEEP, NOTHING)):
            for _ in range(5):
                plan = made_up_wait(dice, other.tree, house.tree)
                self.assertIs(is_plan(house, other, plan), True)
                for wrong in spoiled(plan):
                    self.assertIs(is_plan(house, other, wrong), False, wrong)
                between = ((HALF, plan), ((1, 3), plan), ((1, 6), plan))
                led(house, other, between)
                for wrong in spoiled(between):
                    self.assertIs(is_between(house, other, wrong), False, wrong)
                    with self.assertRaises(NotBetween):
                        led(house, other, wrong)

    def test_things_of_all_kinds(self):
        for thing in strange():
            word = "told" if thing == "tell" else thing
            for plan in (thing, (thing,), ((word, 0, ()),), (("tell", thing, ()),), (("tell", 0, thing),),
                         (("ask", thing, HEAR[2]),), (("ask", 0, thing),), (("ask", 0, (thing, ("tell", 0, ()))),)):
                self.assertIs(is_plan(COIN, CLEAR, plan), False)
                for between in (plan, ((ONE, plan),), ((HALF, (HEAR,)), (HALF, plan)), ((plan, (HEAR,)),)):
                    self.assertIs(is_between(COIN, COIN, between), False)
                    with self.assertRaises(NotBetween):
                        led(COIN, CLEAR, between)

    def test_deep_things(self):
        long = House(1, chain(8))
        for _ in range(4):
            long = begun(long)
        for deep in (10, 118, 119, 120):
            for inner in ((), 5, None):
                self.assertIs(is_plan(long, long, nested(deep, inner)), False)
        ask, tell = (), ()
        for _ in range(60):
            ask, tell = (("ask", 0, ask),), (("tell", 0, tell),)
            self.assertIs(is_plan(long, long, ask), False)
            self.assertIs(is_plan(long, COIN_ALONE, ask), False)
            self.assertIs(is_plan(COIN_ALONE, COIN_ALONE, tell), tell == (("tell", 0, ()),))
        # As deep as a plan can be: each round asks and tells.
        self.assertTrue(is_plan(long, long, passing(long)[0][1]))
        wait = ()
        for _ in range(12):
            wait = (("tell", 0, wait),)
        all_asked = wait[0]
        for _ in range(12):
            all_asked = ("ask", 0, (all_asked,))
        self.assertTrue(is_plan(long, long, (all_asked,)))
        self.assertTrue(is_between(long, long, ((ONE, (all_asked,)),)))
        self.assertFalse(is_plan(long, long, (("ask", 0, (all_asked,)),)))


COIN_ALONE = House(1, ((((0,), (HALF,), ()), ((1,), (HALF,), ())),))


class Alike(unittest.TestCase):
    def test_unlike_numbers_of_worlds(self):
        houses = [House(worlds, ()) for worlds in range(1, 6)] + [COIN, COIN_ALONE]
        for house in houses:
            for other in houses:
                if house.worlds != other.worlds:
                    for thing in (None, (), ((ONE, ()),), 7):
                        for call in (is_plan, is_between, led):
                            with self.assertRaises(NotAlike):
                                call(house, other, thing)

    def test_as_many_worlds(self):
        for worlds in range(1, 6):
            house = House(worlds, ())
            self.assertTrue(is_plan(house, house, ()))
            self.assertTrue(is_between(house, house, ((ONE, ()),)))
            self.assertEqual(led(house, house, ((ONE, ()),)), house)


class GoBetweens(unittest.TestCase):
    def wrong(self, thing):
        self.assertIs(is_between(CLEAR, COIN, thing), False)
        with self.assertRaises(NotBetween):
            led(CLEAR, COIN, thing)

    def test_e02(self):
        between = (((1, 2), (HEAR,)), ((1, 4), (("tell", 0, ()),)), ((1, 4), (("tell", 1, ()),)))
        self.assertIs(is_between(CLEAR, COIN, between), True)
        self.assertEqual(led(CLEAR, COIN, between), COIN)

    def test_shares(self):
        plan = (HEAR,)
        led(CLEAR, COIN, ((ONE, plan),))
        led(CLEAR, COIN, ((HALF, plan), ((1, 3), plan), ((1, 6), plan)))
        great = 10 ** 29
        led(CLEAR, COIN, (((1, great), plan), ((great - 1, great), plan)))
        for shares in ((), (HALF,), (HALF, (1, 3)), (HALF, HALF, HALF), (ONE, NOUGHT), (NOUGHT,), ((3, 2), (-1, 2)),
                       (ONE, (1, 10 ** 29)), ((2, 2),), ((2, 4), HALF), ((1, True),), ((True, 1),), (True,), (1,),
                       (None,), ([1, 1],), ("11",), ((1,),), ((1, 1, 1),), ((-1, -1),), ((2, 1), (-1, 1)), ((1, 0),)):
            self.wrong(tuple((share, plan) for share in shares))
        self.wrong([(ONE, plan)])
        self.wrong(([ONE, plan],))
        self.wrong(((ONE, [HEAR]),))
        self.wrong(((ONE, plan, ()),))
        self.wrong(((ONE,),))
        self.wrong((ONE, plan))
        self.wrong(plan)
        self.wrong({ONE: plan})
        self.wrong(((ONE, (("tell", 2, ()),)),))
        self.wrong(((HALF, plan), (HALF, (("tell", True, ()),))))

    def test_the_same_plan_may_stand_twice(self):
        self.assertIs(is_between(COIN, COIN, ((HALF, (HEAR,)), (HALF, (HEAR,)))), True)

    def test_only_what_makes_the_other_house(self):
        self.assertIs(is_between(CLEAR, COIN, ((ONE, (HEAR,)),)), False)
        self.assertIs(is_between(CLEAR, CLEAR, ((ONE, (HEAR,)),)), True)
        self.assertIs(is_between(CLEAR, CLEAR, ((ONE, (TURN,)),)), False)
        self.assertIs(is_between(COIN, CLEAR, ((ONE, (HEAR,)),)), False)
        self.assertIs(is_between(CLEAR, COIN, (((3, 4), (HEAR,)), ((1, 4), (TURN,)))), True)
        self.assertIs(is_between(CLEAR, COIN, (((2, 3), (HEAR,)), ((1, 3), (TURN,)))), False)
        # The words of the house mean nothing.
        words = House(2, (tuple(((50 + number,), weights, ()) for number, (_, weights, _) in enumerate(COIN.tree[0])),))
        self.assertIs(is_between(words, COIN, ((ONE, (HEAR,)),)), True)
        self.assertIs(is_between(COIN, words, ((ONE, (HEAR,)),)), True)

    def test_judges_made_up_go_betweens(self):
        dice = random.Random(3)
        right = 0
        for _ in range(300):
            house = made_up_house(dice, 2, deep=2)
            other = made_up_house(dice, 2, deep=2, questions=1, answers=2)
            between = made_up_between(dice, house, other)
            makes = all(weights_at(other, path) == row for path, row in reckoned(house, other, between).items())
            right += makes
            self.assertIs(is_between(house, other, between), makes)
            self.assertIs(is_between(house, led(house, other, between), between), True)
        self.assertGreater(right, 50)


class Led(unittest.TestCase):
    def check(self, house, other, between):
        made = led(house, other, between)
        self.assertTrue(is_shaped(made, other))
        for path, row in reckoned(house, other, between).items():
            self.assertEqual(weights_at(made, path), row)
        # It is a house.
        self.assertEqual(House(made.worlds, made.tree), made)
        return made

    def test_small_ones(self):
        self.assertEqual(led(CLEAR, COIN, ((ONE, (HEAR,)),)), CLEAR)
        self.assertEqual(led(COIN, CLEAR, ((ONE, (HEAR,)),)), COIN)
        made = led(COIN, CLEAR, ((ONE, (TURN,)),))
        self.assertEqual([answer[1] for answer in made.tree[0]], [((1, 4), (3, 4)), ((3, 4), (1, 4))])
        made = led(COIN, CLEAR, (((2, 3), (TURN,)), ((1, 3), (("tell", 0, ()),))))
        self.assertEqual([answer[1] for answer in made.tree[0]], [(HALF, (5, 6)), (HALF, (1, 6))])

    def test_an_unasked_house(self):
        made = self.check(COIN, DEEP, ((ONE, (("tell", 0, (("tell", 1, ()), ("tell", 0, ()))), ("tell", 1, ()))),))
        self.assertEqual(made.tree[0][0][1], (ONE, ONE))
        self.assertEqual(made.tree[0][0][2][0][1][1], (ONE, ONE))
        self.assertEqual(made.tree[0][1][1], (NOUGHT, NOUGHT))
        self.assertEqual(led(COIN, NOTHING, ((ONE, ()),)), NOTHING)
        self.assertEqual(led(NOTHING, NOTHING, ((HALF, ()), (HALF, ()))), NOTHING)
        made = self.check(NOTHING, COIN, (((1, 3), (("tell", 0, ()),)), ((2, 3), (("tell", 1, ()),))))
        self.assertEqual([answer[1] for answer in made.tree[0]], [((1, 3), (1, 3)), ((2, 3), (2, 3))])

    def test_a_house_asked_several_times(self):
        twice = ("ask", 0, (("ask", 0, (("tell", 0, ()), ("tell", 1, ()))), ("tell", 1, ())))
        made = self.check(DEEP, COIN, ((ONE, (twice,)),))
        self.assertEqual([answer[1] for answer in made.tree[0]], [((1, 4), (2, 3)), ((3, 4), (1, 3))])
        # First the one question, and behind the answer that is told another one.
        later = (("ask", 0, (("tell", 0, (("ask", 1, (("tell", 0, ()), ("tell", 1, ()))), ("tell", 1, ()))),
                             ("tell", 0, (("tell", 0, ()), ("tell", 1, ()))))), ("tell", 0, ()))
        made = self.check(DEEP, DEEP, ((ONE, later),))
        self.assertEqual(made.tree[0][0][1], (ONE, ONE))
        self.assertEqual([answer[1] for answer in made.tree[0][0][2][0]], [(HALF, (2, 3)), (HALF, (1, 3))])

    def test_hopeless_answers(self):
        never = House(2, ((
            ((0,), (ONE, NOUGHT), ()),
            ((1,), (NOUGHT, NOUGHT), ((((0,), (NOUGHT, NOUGHT), ()), ((1,), (NOUGHT, NOUGHT), ())),)),
            ((2,), (NOUGHT, ONE), ()),
        ),))
        between = ((ONE, (("ask", 0, (("tell", 0, ()), HEAR, ("tell", 1, ()))),)),)
        self.assertEqual(self.check(never, COIN, between), CLEAR)
        self.assertEqual(led(never, never, passing(never)), never)
        # The other house's hopeless answers are told if the plan says so.
        behind = (("tell", 1, ()),)
        made = self.check(COIN, never, ((HALF, (("tell", 1, behind),)), (HALF, (("tell", 2, ()),))))
        self.assertEqual(made.tree[0][1][1], (HALF, HALF))
        self.assertEqual(made.tree[0][1][2][0][1][1], (HALF, HALF))
        self.assertEqual(made.tree[0][0][1], (NOUGHT, NOUGHT))
        # A move behind a hopeless answer is due all the same.
        with self.assertRaises(NotBetween):
            led(never, COIN, ((ONE, (("ask", 0, (("tell", 0, ()), None, ("tell", 1, ()))),)),))

    def test_made_up_go_betweens(self):
        for seed in range(300):
            dice = random.Random(seed)
            worlds, great = 1 + seed % 5, seed % 7 == 0
            house = made_up_house(dice, worlds, deep=dice.randrange(4), great=great)
            other = made_up_house(dice, worlds, deep=dice.randrange(4), great=great)
            if len(paths(house)) * len(paths(other)) < 3000:
                self.check(house, other, made_up_between(dice, house, other, 5))

    def test_houses_that_functions_made(self):
        wide = made_house(1, (even(2000),))
        self.assertEqual(led(wide, wide, passing(wide)), wide)
        self.assertTrue(is_between(wide, wide, passing(wide)))
        told_all = ((ONE, (("ask", 0, tuple(("tell", number % 2, ()) for number in range(2000))),)),)
        self.assertEqual(led(wide, COIN_ALONE, told_all), COIN_ALONE)
        for house in (begun(DEEP), hopeful(DEEP)):
            self.assertTrue(is_between(house, house, passing(house)))

    def test_arguments_stay_and_equal_calls_give_equal_answers(self):
        dice, again = random.Random(8), random.Random(8)
        for _ in range(20):
            rows = []
            for die in (dice, again):
                house, other = made_up_house(die, 2, deep=2), made_up_house(die, 2, deep=2)
                rows.append((house, other, made_up_between(die, house, other)))
            self.assertEqual(led(*rows[0]), led(*rows[1]))
            self.assertEqual(rows[0], rows[1])


class Passing(unittest.TestCase):
    def test_small_ones(self):
        self.assertEqual(passing(COIN), ((ONE, (HEAR,)),))
        self.assertEqual(passing(NOTHING), ((ONE, ()),))
        self.assertEqual(passing(DEEP), ((ONE, (
            ("ask", 0, (("tell", 0, (HEAR, ("ask", 1, HEAR[2]))), ("tell", 1, ()))),
            ("ask", 1, HEAR[2]),
        )),))

    def test_makes_the_house(self):
        for seed in range(60):
            house = made_up_house(random.Random(seed), 1 + seed % 5, deep=4)
            between = passing(house)
            self.assertEqual(len(between), 1)
            self.assertTrue(is_plan(house, house, between[0][1]))
            self.assertTrue(is_between(house, house, between))
            self.assertEqual(led(house, house, between), house)
            self.assertEqual(passing(house), between)

    def test_large_ones(self):
        long = House(3, tuple((((), (ONE,) * 3, ()),) for _ in range(5)))
        for _ in range(8):
            long = begun(long)
        self.assertTrue(is_between(long, long, passing(long)))


if __name__ == "__main__":
    unittest.main()
