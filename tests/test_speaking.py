"""[2.3]: houses told back as programs."""

import random
import unittest

from tellsless.errors import TooLarge
from tellsless.houses import House, begun, hopeful, made_house, paths, rounds
from tellsless.plans import led, passing
from tellsless.programs import Program
from tellsless.running import house_of
from tellsless.speaking import spoken
from tests.things import CLEAR, COIN, HALF, NOUGHT, ONE, chain, even, made_up_house

SURE = (((), (ONE,), ()),)


def many_answers(house):
    return len(paths(house)) - 1


def even_behind(many, ahead, node=()):
    """A question of one world with so many answers of the same chance, behind one with the chance 1/ahead."""
    return tuple(((number,), ((1, many * ahead),), node) for number in range(many))


def with_hopeless(question, node=()):
    """A question of one world with one answer more, that is hopeless."""
    return question + (((90,), (NOUGHT,), node),)


def wide_tree(more):
    """A tree of one world with 60 answers, and so many more (above 12) behind one of them."""
    twelve = even(12)
    behind = (even_behind(12, 12), even_behind(more - 12, 12))
    return (twelve,) * 4 + ((twelve[0][:2] + (behind,),) + twelve[1:],)


class Spoken(unittest.TestCase):
    def comes_back(self, house):
        program = spoken(house)
        self.assertIsInstance(program, Program)
        self.assertEqual((program.worlds, program.houses), (house.worlds, 0))
        # It is one that can be made by its name.
        self.assertEqual(Program(program.worlds, program.cells, 0, program.body), program)
        self.assertEqual(house_of(program, ()), begun(hopeful(house)))

    def too_large(self, house):
        with self.assertRaises(TooLarge):
            spoken(house)

    def test_small_houses(self):
        for house in (COIN, CLEAR, House(2, COIN.tree * 5), House(2, COIN.tree + CLEAR.tree)):
            self.comes_back(house)

    def test_without_questions(self):
        for worlds in range(1, 6):
            house = House(worlds, ())
            self.comes_back(house)
            self.assertEqual(house_of(spoken(house), ()).tree, ((((0,), (ONE,) * worlds, ()),),))

    def test_answers_are_numbered_and_words_forgotten(self):
        behind = ((((), (HALF,), ()),),) * 2
        house = House(1, ((((5, 5), (HALF,), behind), ((99,), (HALF,), ())),))
        tree = house_of(spoken(house), ()).tree
        self.assertEqual(tree[0][0][0], (1,))
        self.assertEqual([answer[0] for answer in tree[0][0][2][0]], [(0, 2), (1, 0)])
        self.comes_back(house)

    def test_chances_that_hang_on_what_was_answered(self):
        third, sixth = (1, 3), (1, 6)
        house = House(2, ((
            ((0,), (HALF, ONE), ((((0,), (third, NOUGHT), ()), ((1,), (sixth, ONE), ())),)),
            ((1,), (HALF, NOUGHT), ((((0,), (sixth, NOUGHT), ()), ((1,), (third, NOUGHT), ())),)),
        ),))
        self.comes_back(house)

    def test_hopeless_answers(self):
        behind = ((((5,), (NOUGHT, NOUGHT), ()), ((6,), (NOUGHT, NOUGHT), ())),)
        half = ((((1,), (NOUGHT, ONE), ()), ((2,), (NOUGHT, NOUGHT), ((((), (NOUGHT, NOUGHT), ()),),))),)
        self.comes_back(House(2, (
            (((0,), (NOUGHT, NOUGHT), behind), ((1,), (ONE, NOUGHT), ()), ((2,), (NOUGHT, ONE), half)),
            (((), (ONE, ONE), ()),),
        )))

    def test_made_up_houses(self):
        large = 0
        for seed in range(400):
            dice = random.Random(seed)
            house = made_up_house(dice, 1 + seed % 5, deep=dice.randrange(1, 5))
            if many_answers(hopeful(house)) <= 80:
                self.comes_back(house)
            else:
                large += 1
                self.too_large(house)
        self.assertTrue(5 < large < 200, large)

    def test_great_fractions(self):
        for seed in range(60):
            house = made_up_house(random.Random(seed), 1 + seed % 5, deep=3, questions=2, answers=2, great=True)
            self.comes_back(house)
        big = 10 ** 30 - 1
        self.comes_back(House(2, ((((0,), ((1, big), (big - 1, big)), ()), ((1,), ((big - 1, big), (1, big)), ())),)))

    def test_houses_that_functions_made(self):
        dice = random.Random(5)
        for seed in range(20):
            house = made_up_house(dice, 1 + seed % 3, deep=2, questions=2, answers=2, great=seed % 2 == 0)
            for made in (begun(house), hopeful(house), begun(begun(house)), led(house, house, passing(house)),
                         house_of(spoken(house), ())):
                self.comes_back(made)
        # Its words may have numbers of any size.
        self.comes_back(made_house(1, ((((150, 2000), (ONE,), ()),),)))

    def test_bound_of_answers(self):
        for more in (19, 20):
            house = House(1, wide_tree(more))
            self.assertEqual(many_answers(house), 60 + more)
            self.comes_back(house)
        self.too_large(House(1, wide_tree(21)))
        # Hopeless ones, and those behind them, don't count.
        nothing = (tuple(((number,), (NOUGHT,), ()) for number in range(12)),) * 5
        tree = wide_tree(20)[:4] + (wide_tree(20)[4][:11] + (((11,), (NOUGHT,), nothing), ((12,), ((1, 12),), ())),)
        house = made_house(1, tree)
        self.assertEqual(many_answers(house), 141)
        self.comes_back(house)

    def test_bound_of_rounds(self):
        self.comes_back(House(1, chain(7)))
        eight = House(1, chain(8))
        self.comes_back(eight)
        nine = begun(eight)
        self.too_large(nine)
        self.too_large(begun(begun(begun(nine))))
        for _ in range(4):
            eight = begun(eight)
        self.assertEqual(rounds(eight), 12)
        self.too_large(eight)
        # Rounds behind a hopeless answer don't count.
        hidden = ((((), (NOUGHT,), ()),),)
        for _ in range(6):
            hidden = ((((), (NOUGHT,), hidden),),)
        house = House(1, (with_hopeless(SURE, hidden),))
        self.assertEqual(rounds(begun(house)), 9)
        self.comes_back(begun(house))

    def test_bound_of_questions(self):
        self.comes_back(House(1, (SURE,) * 5))
        self.too_large(made_house(1, (SURE,) * 6))
        for many in (5, 6):
            deep = made_house(1, chain(1, (SURE, (((), (ONE,), (SURE,) * many),))))
            if many == 5:
                self.comes_back(deep)
            else:
                self.too_large(deep)
        hidden = ((((), (NOUGHT,), ()),),) * 6
        self.comes_back(made_house(1, (with_hopeless(SURE, hidden),)))

    def test_bound_of_answers_of_a_question(self):
        self.comes_back(House(1, (even(12),)))
        self.too_large(made_house(1, (even(13),)))
        self.comes_back(made_house(1, chain(2, (SURE, even(12)))))
        self.too_large(made_house(1, chain(2, (SURE, even(13)))))
        self.comes_back(made_house(1, (with_hopeless(even(12)),)))
        self.comes_back(House(1, (with_hopeless(even(11)),)))
        twelve = tuple(((1, 12), value) for value in range(12))
        body = (("toss", 1, twelve), ("toss", 2, ((HALF, 0), (HALF, 1))),
                ("tell", ("plus", ("cell", 1), ("cell", 2))))
        self.too_large(house_of(Program(1, 3, 0, body), ()))

    def test_largest_programs(self):
        # 80 questions of one answer each, in 5 worlds.
        def sure(node):
            return (((), (ONE,) * 5, node),)
        five = (sure(()),) * 5
        tree = (sure((sure(five), sure(five), sure(()), sure(()), sure(()))),) * 5
        house = House(5, tree)
        self.assertEqual(many_answers(house), 80)
        self.comes_back(house)
        # 8 rounds of ten answers each, all but one of which are ends.
        node = ()
        for deep in range(8, 0, -1):
            node = (tuple(((number,), ((1, 10 ** deep),) * 5, node if number == 9 else ()) for number in range(10)),)
        house = House(5, node)
        self.assertEqual((many_answers(house), rounds(house)), (80, 8))
        self.comes_back(house)

    def test_arguments_stay_and_equal_calls_give_equal_answers(self):
        for seed in range(20):
            house = made_up_house(random.Random(seed), 2, deep=2)
            same = made_up_house(random.Random(seed), 2, deep=2)
            self.assertEqual(spoken(house), spoken(same))
            self.assertEqual(house, same)


if __name__ == "__main__":
    unittest.main()
