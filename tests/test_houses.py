"""Part 1, and what Part 0 says of houses."""

import unittest

from tellsless.errors import BadHouse, NoPath, TooLarge
from tellsless.houses import (
    House, begun, ends, hopeful, is_shaped, made_house, node_at, paths, rounds, weights_at,
)
from tellsless.programs import Program
from tests.things import CLEAR, COIN, HALF, NOUGHT, ONE, chain, even, nested, strange

SURE = ((), (ONE,), ())
TWO = (((0,), (HALF,), ()), ((1,), (HALF,), ()))


def full_tree(extra):
    """A tree of one world with 5 questions of 12 answers, behind each 2 questions of 12: 1500, and so many more."""
    behind = (tuple(((number,), ((1, 144),), ()) for number in range(12)),) * 2
    first = tuple(((number,), ((1, 12),), behind) for number in range(12))
    last = ((11,), ((1, 12),), behind + ((((), ((1, 12),), ()),),) * extra)
    return (first,) * 4 + (first[:11] + (last,),)


def many_answers(node):
    return sum(1 + many_answers(answer[2]) for question in node for answer in question)


class Judged(unittest.TestCase):
    def place(self, worlds, tree):
        with self.assertRaises(BadHouse) as caught:
            House(worlds, tree)
        return caught.exception.place

    def test_attributes_and_equality(self):
        self.assertEqual((COIN.worlds, COIN.tree[0][1]), (2, ((1,), ((1, 4), (3, 4)), ())))
        self.assertEqual(COIN, House(2, COIN.tree))
        self.assertFalse(COIN != House(2, COIN.tree))
        self.assertNotEqual(COIN, CLEAR)
        self.assertNotEqual(House(1, ()), House(2, ()))
        self.assertFalse(House(1, ()) == House(1, ((SURE,),)))

    def test_equal_to_nothing_of_another_kind(self):
        for thing in (None, 0, 2, (), (1, ()), [1, ()], "house", {}, Program(1, 1, 0, ()), House, NoPath(), COIN.tree):
            self.assertFalse(House(1, ()) == thing)
            self.assertTrue(House(1, ()) != thing)
            self.assertFalse(thing == House(1, ()))

    def test_worlds(self):
        for worlds in (1, 2, 3, 4, 5):
            self.assertEqual(House(worlds, ()).worlds, worlds)
        for worlds in [0, 6, -1, (1,), "1"] + [thing for thing in strange()]:
            self.assertIsNone(self.place(worlds, ()))
            self.assertIsNone(self.place(worlds, 5))

    def test_strange_things_everywhere(self):
        for thing in strange():
            # 7 is a number of a word.
            if not isinstance(thing, int) or isinstance(thing, bool) or thing != 7:
                for answer in (thing, (thing, (ONE,), ()), ((), thing, ()), ((), (thing,), ()), ((thing,), (ONE,), ())):
                    self.assertEqual(self.place(1, ((answer,),)), (0, 0))
                self.assertEqual(self.place(1, ((((), (ONE,), thing),),))[:2], (0, 0))
                self.assertEqual(self.place(1, (thing,))[:1], (0,))
                self.assertIn(self.place(1, thing), ((), (0,), (0, 0)))

    def test_nodes(self):
        self.assertEqual(len(House(1, ((SURE,),) * 5).tree), 5)
        self.assertEqual(self.place(1, ((SURE,),) * 6), ())
        self.assertEqual(self.place(1, [(SURE,)]), ())
        self.assertEqual(self.place(1, (([SURE]),)), (0,))
        self.assertEqual(self.place(1, ((((), (ONE,), []),),)), (0, 0))
        self.assertEqual(self.place(1, ((((), (ONE,), ((SURE,),) * 6),),)), (0, 0))

    def test_questions(self):
        self.assertEqual(len(House(1, (even(12),)).tree[0]), 12)
        self.assertEqual(self.place(1, (even(13),)), (0,))
        self.assertEqual(self.place(1, ((),)), (0,))
        self.assertEqual(self.place(1, ((SURE,), ())), (1,))
        self.assertEqual(self.place(1, ((SURE,), 5)), (1,))
        # Also behind a hopeless answer, where no answers add up, too.
        self.assertEqual(self.place(1, ((((0,), (NOUGHT,), ((),)), ((1,), (ONE,), ())),)), (0, 0, 0))

    def test_answers(self):
        wrong = [
            [(), (ONE,), ()], ((), (ONE,)), ((), (ONE,), (), ()), ([], (ONE,), ()), ((), [ONE], ()), ((), ([1, 1],), ()),
            ((), (), ()), ((), (ONE, ONE), ()), ((True,), (ONE,), ()), ((-1,), (ONE,), ()), ((100,), (ONE,), ()),
            (("0",), (ONE,), ()), ((0,) * 9, (ONE,), ()), ((), ((2, 2),), ()), ((), ((0, 2),), ()), ((), ((2, 4),), ()),
            ((), ((1, 0),), ()), ((), ((0, 0),), ()), ((), ((-1, -1),), ()), ((), ((1, -1),), ()), ((), ((2, 1),), ()),
            ((), ((-1, 2),), ()), ((), ((3, 2),), ()), ((), ((True, 1),), ()), ((), ((1, True),), ()),
            ((), ((False, 1),), ()), ((), ((1,),), ()), ((), ((1, 1, 1),), ()), ((), (1,), ()), (0, (ONE,), ()),
        ]
        for answer in wrong:
            self.assertEqual(self.place(1, ((answer,),)), (0, 0), answer)
            self.assertEqual(self.place(1, ((SURE,), (SURE, answer))), (1, 1), answer)
        self.assertEqual(House(1, ((((0,) * 8, (ONE,), ()),),)).tree[0][0][0], (0,) * 8)
        self.assertEqual(House(1, ((((99, 0), (ONE,), ()),),)).tree[0][0][0], (99, 0))

    def test_words_ascend(self):
        def pair(one, other):
            return ((one, (HALF,), ()), (other, (HALF,), ()))
        for one, other in (((), (0,)), ((0,), (0, 0)), ((0, 99), (1,)), ((5,), (10,))):
            House(1, (pair(one, other),))
            self.assertEqual(self.place(1, (pair(other, one),)), (0,))
            self.assertEqual(self.place(1, (pair(one, one),)), (0,))

    def test_weights_add_up(self):
        self.assertEqual(self.place(1, (even(3)[:2],)), (0,))
        self.assertEqual(self.place(1, ((((0,), ((2, 3),), ()), ((1,), ((2, 3),), ())),)), (0,))
        self.assertEqual(self.place(2, ((((0,), ((1, 2), (1, 2)), ()), ((1,), ((1, 2), (1, 3)), ())),)), (0,))
        behind = (((0,), (HALF,), ((((), (HALF,), ()),),)), ((1,), (HALF,), ((((), (ONE,), ()),),)))
        self.assertEqual(self.place(1, (behind,)), (0, 1, 0))
        big = 10 ** 29
        House(1, ((((0,), ((1, big),), ()), ((1,), ((big - 1, big),), ())),))

    def test_hopeless_answers_add_up_too(self):
        def tree(weight):
            return ((((0,), (ONE,), ()), ((1,), (NOUGHT,), ((((), (weight,), ()),),))),)
        self.assertEqual(rounds(House(1, tree(NOUGHT))), 2)
        self.assertEqual(self.place(1, tree(ONE)), (0, 1, 0))

    def test_rounds(self):
        self.assertEqual(rounds(House(1, chain(8))), 8)
        self.assertEqual(self.place(1, chain(9)), (0, 0) * 8)
        self.assertEqual(self.place(1, chain(8, 5)), (0, 0) * 8)
        self.assertEqual(self.place(1, chain(8, [])), (0, 0) * 8)
        # Items behind 8 answers are not looked at.
        self.assertEqual(self.place(1, chain(8, (5,))), (0, 0) * 8)
        self.assertEqual(self.place(1, chain(7, (5,))), (0, 0) * 7 + (0,))

    def test_all_answers(self):
        tree = full_tree(0)
        self.assertEqual(many_answers(tree), 1500)
        self.assertEqual(House(1, tree).tree, tree)
        tree = full_tree(1)
        self.assertEqual(many_answers(tree), 1501)
        self.assertEqual(self.place(1, tree), ())
        # Any other wrong thing is told ahead of this.
        self.assertEqual(self.place(1, ((((), (ONE,), tree), 5),)), (0, 1))

    def test_the_first_of_two_wrong_things(self):
        bad_behind = ((((), (ONE,), 5),),)
        cases = [
            # An answer ahead of what is behind an earlier answer of the question.
            (((((0,), (HALF,), 5), 7),), (0, 1)),
            # Words and sums ahead of what is behind the answers.
            (((((1,), (HALF,), 5), ((0,), (HALF,), ())),), (0,)),
            (((((0,), ((1, 3),), 5), ((1,), (HALF,), ())),), (0,)),
            # An answer ahead of words and sums.
            (((((1,), (HALF,), ()), ((0,), (HALF,), ()), 5),), (0, 2)),
            # All behind a question ahead of the next question.
            (((((), (ONE,), 5),), 5), (0, 0)),
            (((((), (ONE,), ((((), (ONE,), bad_behind),),)),), 5), (0, 0, 0, 0, 0, 0)),
            ((((SURE),), (((), (ONE,), 5),), 5), (1, 0)),
            # Behind the first answer ahead of behind the second one.
            (((((0,), (HALF,), ((5,),)), ((1,), (HALF,), 5)),), (0, 0, 0, 0)),
            (((((0,), (HALF,), (((),),)), ((1,), (HALF,), 5)),), (0, 0, 0, 0)),
            # The number of questions ahead of what is in them.
            ((5,) * 6, ()),
            ((5,) * 5, (0,)),
            (((5,) * 13,), (0,)),
            (((5,) * 12,), (0, 0)),
        ]
        for tree, place in cases:
            self.assertEqual(self.place(1, tree), place, tree)
        self.assertIsNone(self.place(0, 5))

    def test_two_questions_wrong_behind(self):
        node = ((((0,), (HALF,), ((((), (HALF,), ()),), (((), (ONE,), ()),))), ((1,), (HALF,), ((),))),)
        self.assertEqual(self.place(1, node), (0, 0, 1))


class Walked(unittest.TestCase):
    DEEP = House(2, (
        (
            ((0,), (HALF, ONE), ((((), (HALF, ONE), ()),), (((3,), (NOUGHT, ONE), ()), ((4,), (HALF, NOUGHT), ())))),
            ((1,), (HALF, NOUGHT), ()),
        ),
        (((7, 7), (ONE, ONE), ()),),
    ))

    def test_paths(self):
        self.assertEqual(paths(COIN), [(), ((0, 0),), ((0, 1),)])
        self.assertEqual(paths(House(3, ())), [()])
        self.assertEqual(paths(self.DEEP), [
            (), ((0, 0),), ((0, 0), (0, 0)), ((0, 0), (1, 0)), ((0, 0), (1, 1)), ((0, 1),), ((1, 0),),
        ])

    def test_ends(self):
        self.assertEqual(ends(COIN), [((0, 0),), ((0, 1),)])
        self.assertEqual(ends(House(3, ())), [()])
        self.assertEqual(ends(self.DEEP), [
            ((0, 0), (0, 0)), ((0, 0), (1, 0)), ((0, 0), (1, 1)), ((0, 1),), ((1, 0),),
        ])

    def test_lists_are_new(self):
        for listed in (paths, ends):
            first = listed(COIN)
            first.append(5)
            self.assertNotIn(5, listed(COIN))

    def test_nodes_and_weights(self):
        self.assertEqual(weights_at(COIN, ((0, 1),)), ((1, 4), (3, 4)))
        self.assertEqual(weights_at(COIN, ()), (ONE, ONE))
        self.assertEqual(weights_at(House(5, ()), ()), (ONE,) * 5)
        self.assertEqual(node_at(COIN, ()), COIN.tree)
        self.assertEqual(node_at(COIN, ((0, 0),)), ())
        self.assertEqual(node_at(self.DEEP, ((0, 0),)), self.DEEP.tree[0][0][2])
        self.assertEqual(weights_at(self.DEEP, ((0, 0), (1, 1))), (HALF, NOUGHT))
        for path in paths(self.DEEP):
            self.assertIsInstance(node_at(self.DEEP, path), tuple)

    def test_no_path(self):
        wrong = [thing for thing in strange() if thing != ()] + [
            [], [(0, 0)], ([0, 0],), ((0, 2),), ((1, 0),), ((0, -1),), ((-1, 0),), ((0, 0), (0, 0)), (0, 0), ((0,),),
            ((0, 0, 0),), ((False, 0),), ((0, True),), ((0, "0"),), ((None, None),), ((0, 0), 5), (((0, 0),),),
        ]
        for thing in wrong:
            for ask in (node_at, weights_at):
                with self.assertRaises(NoPath):
                    ask(COIN, thing)
        for ask in (node_at, weights_at):
            with self.assertRaises(NoPath):
                ask(House(1, ()), ((0, 0),))

    def test_rounds(self):
        self.assertEqual([rounds(house) for house in (House(1, ()), COIN, self.DEEP, House(1, chain(8)))], [0, 1, 2, 8])

    def test_shaped(self):
        self.assertTrue(is_shaped(COIN, CLEAR))
        self.assertTrue(is_shaped(COIN, COIN))
        self.assertFalse(is_shaped(House(1, ()), House(2, ())))
        self.assertFalse(is_shaped(COIN, House(2, ())))
        self.assertFalse(is_shaped(House(2, ()), COIN))
        three = House(3, (tuple((word, weights + (HALF,), behind) for word, weights, behind in COIN.tree[0]),))
        self.assertFalse(is_shaped(COIN, three))
        words = House(2, (tuple(((number + 1,), weights, ()) for number, (_, weights, _) in enumerate(COIN.tree[0])),))
        self.assertFalse(is_shaped(COIN, words))
        deeper = House(2, ((COIN.tree[0][0], ((1,), ((1, 4), (3, 4)), ((((), ((1, 4), (3, 4)), ()),),))),))
        self.assertFalse(is_shaped(COIN, deeper))
        self.assertFalse(is_shaped(deeper, COIN))
        self.assertTrue(is_shaped(deeper, deeper))
        self.assertFalse(is_shaped(COIN, House(2, COIN.tree * 2)))


class Made(unittest.TestCase):
    def test_hopeful(self):
        behind = ((((5,), (NOUGHT, NOUGHT), ()), ((6,), (NOUGHT, NOUGHT), ())),)
        half_behind = ((((1,), (NOUGHT, ONE), ()), ((2,), (NOUGHT, NOUGHT), ((((), (NOUGHT, NOUGHT), ()),),))),)
        house = House(2, (
            (((0,), (NOUGHT, NOUGHT), behind), ((1,), (ONE, NOUGHT), ()), ((2,), (NOUGHT, ONE), half_behind)),
            (((), (ONE, ONE), ()),),
        ))
        self.assertEqual(hopeful(house), House(2, (
            (((1,), (ONE, NOUGHT), ()), ((2,), (NOUGHT, ONE), ((((1,), (NOUGHT, ONE), ()),),))),
            (((), (ONE, ONE), ()),),
        )))
        self.assertEqual(hopeful(COIN), COIN)
        self.assertEqual(hopeful(CLEAR), CLEAR)
        self.assertEqual(hopeful(House(4, ())), House(4, ()))
        self.assertEqual(len(house.tree[0]), 3)

    def test_begun(self):
        self.assertEqual(begun(House(3, ())).tree, ((((0,), (ONE,) * 3, ()),),))
        self.assertEqual(begun(COIN), House(2, ((((1,), (ONE, ONE), (
            (((0, 0), ((3, 4), (1, 4)), ()), ((1, 0), ((1, 4), (3, 4)), ())),
        )),),)))
        house = Walked.DEEP
        after = begun(house).tree[0][0]
        self.assertEqual(after[0], (2,))
        self.assertEqual([answer[0] for answer in after[2][0]], [(0, 2), (1, 0)])
        self.assertEqual([answer[0] for answer in after[2][1]], [(0, 0)])
        self.assertEqual([answer[0] for answer in after[2][0][0][2][1]], [(0, 0), (1, 0)])
        self.assertEqual([answer[1] for answer in after[2][0]], [answer[1] for answer in house.tree[0]])
        self.assertEqual(house, Walked.DEEP)

    def test_begun_keeps_hopeless_answers(self):
        house = House(1, ((((5,), (NOUGHT,), ()), ((6,), (ONE,), ())),))
        self.assertEqual(begun(house).tree[0][0][2], ((((0, 0), (NOUGHT,), ()), ((1, 0), (ONE,), ())),))

    def test_too_many_rounds(self):
        house = House(1, chain(8))
        for many in (9, 10, 11, 12):
            house = begun(house)
            self.assertEqual(rounds(house), many)
        self.assertEqual(len(paths(house)), 13)
        with self.assertRaises(TooLarge):
            begun(house)
        self.assertEqual(hopeful(house), house)

    def test_too_many_answers(self):
        wide = made_house(1, (even(2999),))
        house = begun(wide)
        self.assertEqual(len(paths(house)), 3001)
        # What was returned is passed on, whatever its size.
        self.assertEqual(house.tree[0][0][2][0][2998][0], (2998, 0))
        self.assertEqual(weights_at(house, ((0, 0), (0, 2998))), ((1, 2999),))
        self.assertEqual(hopeful(house), house)
        self.assertTrue(is_shaped(house, house))
        with self.assertRaises(TooLarge):
            begun(house)
        with self.assertRaises(TooLarge):
            made_house(1, (even(3001),))
        self.assertEqual(begun(made_house(1, ((SURE,),) * 99)).tree[0][0][0], (99,))

    def test_equal_calls_give_equal_answers(self):
        for function in (begun, hopeful, paths, ends, rounds):
            self.assertEqual(function(Walked.DEEP), function(House(2, Walked.DEEP.tree)))


class Deep(unittest.TestCase):
    def test_deep_things_raise_only_what_is_named(self):
        for deep in (60, 119, 120):
            with self.assertRaises(BadHouse):
                House(1, nested(deep))
            with self.assertRaises(BadHouse):
                House(1, ((((), (ONE,), nested(deep - 4, 5)),),))
            with self.assertRaises(NoPath):
                node_at(COIN, nested(deep))


if __name__ == "__main__":
    unittest.main()
