"""[11.1]: strangers' houses."""

import random
import unittest

from tellsless.errors import NoAnswer, NoNumber, TooLarge
from tellsless.houses import House, node_at, paths
from tellsless.strangers import heard
from tests.things import COIN, HALF, NOUGHT, ONE, chance, even, made_up_house, nested, pair, spoiled, strange

RIGHT = ((((0,), (HALF, ONE)), ((1,), (HALF, NOUGHT))), (((), (ONE, ONE)),))


def answers(question):
    """A question of a house as a stranger tells it, the weights ahead being ONE."""
    return tuple((word, weights) for word, weights, _ in question)


def stranger_of(house):
    """A stranger who is a house; behind hopeless answers all chances but the first are NOUGHT."""
    def told(talk):
        node, ahead = house.tree, (ONE,) * house.worlds
        for number, word in talk:
            for answer in node[number]:
                if answer[0] == word:
                    behind = answer
            node, ahead = behind[2], behind[1]
        found = []
        for question in node:
            pairs = []
            for place, (word, weights, _) in enumerate(question):
                row = []
                for weight, before in zip(weights, ahead):
                    if before != NOUGHT:
                        row.append(pair(chance(weight) / chance(before)))
                    else:
                        row.append(ONE if place == 0 else NOUGHT)
                pairs.append((word, tuple(row)))
            found.append(tuple(pairs))
        return tuple(found)
    return told


def cut(node, rounds):
    """A node without what is behind so many rounds."""
    if rounds == 0:
        return ()
    return tuple(
        tuple((word, weights, cut(behind, rounds - 1)) for word, weights, behind in question) for question in node
    )


class Noting:
    """A stranger who notes of what talks they are asked."""

    def __init__(self, stranger):
        self.stranger = stranger
        self.talks = []

    def __call__(self, talk):
        self.talks.append(talk)
        return self.stranger(talk)


def talk_of(house, path):
    """What was asked and answered on a path."""
    return tuple(
        (question, node_at(house, path[:number])[question][answer][0])
        for number, (question, answer) in enumerate(path)
    )


class Heard(unittest.TestCase):
    def test_the_house_that_is_due(self):
        def told(talk):
            if len(talk) == 2:
                return ()
            if talk == ((0, (1,)),):
                return (((((7,), ((1, 3), (1, 4)))), ((9, 9), ((2, 3), (3, 4)))),)
            return RIGHT

        def behind(first, second):
            half = pair(chance(first) / 2)
            return ((((0,), (half, second), ()), ((1,), (half, NOUGHT), ())), (((), (first, second), ()),))

        due = House(2, (
            (((0,), (HALF, ONE), behind(HALF, ONE)),
             ((1,), (HALF, NOUGHT), ((((7,), ((1, 6), NOUGHT), ()), ((9, 9), ((1, 3), NOUGHT), ())),))),
            (((), (ONE, ONE), behind(ONE, ONE)),),
        ))
        self.assertEqual(heard(2, told, 5), due)
        self.assertEqual(heard(2, told, 2), due)
        self.assertEqual(heard(2, told, 1), House(2, cut(due.tree, 1)))
        self.assertEqual(heard(2, told, 0), House(2, ()))

    def test_made_up_houses_are_heard_again(self):
        for seed in range(60):
            dice = random.Random(seed)
            house = made_up_house(dice, dice.randrange(1, 6), 4, 2, 3, seed % 4 == 0)
            for rounds in range(6):
                found = heard(house.worlds, stranger_of(house), rounds)
                self.assertIs(type(found), House)
                self.assertEqual(found, House(house.worlds, cut(house.tree, rounds)))

    def test_each_talk_is_asked_once_in_reading_order(self):
        for seed in range(40):
            house = made_up_house(random.Random(seed), 2, 4, 2, 3)
            for rounds in range(6):
                noting = Noting(stranger_of(house))
                heard(2, noting, rounds)
                self.assertEqual(noting.talks, [talk_of(house, path) for path in paths(house) if len(path) < rounds])

    def test_behind_hopeless_answers_it_is_asked(self):
        look = ((((0,), (NOUGHT, NOUGHT)), ((1,), (ONE, ONE))),)
        noting = Noting(lambda talk: look if len(talk) < 2 else RIGHT)
        found = heard(2, noting, 3)
        self.assertIn(((0, (0,)), (0, (0,))), noting.talks)
        self.assertEqual(len(noting.talks), 7)
        self.assertEqual(found.tree[0][0][2][0][0][2][0][0], ((0,), (NOUGHT, NOUGHT), ()))

    def test_rounds_without_an_end(self):
        noting = Noting(lambda talk: ((((), (ONE,)),),))
        self.assertEqual(len(paths(heard(1, noting, 8))), 9)
        self.assertEqual(len(noting.talks), 8)

    def test_worlds_then_rounds(self):
        noting = Noting(lambda talk: ())
        for thing in strange() + [0, 6, -1, 9, 10 ** 29]:
            if type(thing) is not int or not 1 <= thing <= 5:
                with self.assertRaises(NoNumber):
                    heard(thing, noting, 1)
            if type(thing) is not int or not 0 <= thing <= 8:
                with self.assertRaises(NoNumber):
                    heard(1, noting, thing)
                with self.assertRaises(NoNumber):
                    heard(thing, noting, thing)
        self.assertEqual(noting.talks, [])
        for worlds in range(1, 6):
            for rounds in range(9):
                self.assertEqual(heard(worlds, noting, rounds), House(worlds, ()))

    def wrong(self, thing, at=(), right=RIGHT, worlds=2):
        """Tells a thing at a talk, and sees that nothing more is asked."""
        noting = Noting(lambda talk: thing if talk == at else right)
        with self.assertRaises(NoAnswer) as caught:
            heard(worlds, noting, len(at) + 1)
        self.assertEqual(caught.exception.talk, at)
        self.assertEqual(noting.talks[-1], at)
        self.assertEqual(noting.talks.count(at), 1)

    def test_strange_things(self):
        for thing in strange():
            if thing != ():
                self.wrong(thing)
                self.wrong((thing,))
                self.wrong(RIGHT + (thing,))
                self.wrong(((thing,),), ((0, (1,)),))
                self.wrong(((((0,), thing),),))
        self.wrong(COIN.tree)
        self.wrong(nested(119))

    def test_all_ways_to_spoil(self):
        for thing in spoiled(RIGHT, (-1, 100, 10 ** 29)):
            try:
                heard(2, lambda talk: thing, 1)
            except NoAnswer as error:
                self.assertEqual(error.talk, ())
            else:
                # What is right once more: another word, or a question more or less.
                House(2, tuple(tuple((word, row, ()) for word, row in question) for question in thing))

    def test_each_thing_that_can_be_wrong(self):
        sure = (ONE, ONE)
        self.wrong([((((), sure)),)])
        self.wrong(((((), sure),),) * 6)
        self.wrong(((),))
        self.wrong((RIGHT[0], ()))
        self.wrong((answers(even(13, worlds=2)),))
        self.wrong(([((), sure)],))
        self.wrong(((((0,), (HALF, HALF)), ((0,), (HALF, HALF))),))
        self.wrong(((((1,), (HALF, HALF)), ((0,), (HALF, HALF))),))
        self.wrong(((((0, 1), (HALF, HALF)), ((0,), (HALF, HALF))),))
        for word in ((0,) * 9, (100,), (-1,), (True,), [0], "0", 0, None, ((0,),), nested(119)):
            self.wrong((((word, sure),),))
        for chances in (
            (ONE,), (ONE, ONE, ONE), (), [ONE, ONE], (ONE, (2, 2)), (ONE, (2, 1)), (ONE, (-1, 1)), (ONE, True), (ONE, 1),
            (ONE, (True, 1)), (ONE, (1, True)), (ONE, [1, 1]), (ONE, NOUGHT), (ONE, HALF), (ONE, (1, 0)), (ONE, (1, -1)),
        ):
            self.wrong(((((0,), chances),),))
        self.wrong(((((0,), (HALF, HALF)), ((1,), (HALF, (1, 3)))),))
        self.wrong(((((0,), (HALF, (2, 3))), ((1,), (HALF, HALF))),))
        self.wrong((((((0,), sure, ())),),))

    def test_at_the_bounds_it_is_right(self):
        for told in (
            (((((), (ONE, ONE))),),) * 5,
            (answers(even(12, worlds=2)),),
            (((((99,) * 8), (ONE, ONE)),),),
            ((((0,), (HALF, HALF)), ((0, 0), (HALF, HALF))),),
            ((((0,), ((1, 10 ** 29), ONE)), ((1,), ((10 ** 29 - 1, 10 ** 29), NOUGHT))),),
        ):
            due = House(2, tuple(tuple((word, row, ()) for word, row in question) for question in told))
            self.assertEqual(heard(2, lambda talk: told, 1), due)

    def test_the_first_wrong_talk(self):
        wrong = {((0, (1,)),), ((1, ()),), ((0, (1,)), (0, (0,)))}
        noting = Noting(lambda talk: None if talk in wrong else RIGHT)
        with self.assertRaises(NoAnswer) as caught:
            heard(2, noting, 3)
        self.assertEqual(caught.exception.talk, ((0, (1,)),))
        self.assertEqual(noting.talks[-1], ((0, (1,)),))
        # Behind the last round nobody asks.
        heard(2, lambda talk: None if len(talk) == 2 else RIGHT, 2)

    def test_too_large(self):
        # 60 answers at each talk: 1 + 49 of them make 3000.
        five = tuple(answers(even(12)) for _ in range(5))
        for many, rounds in ((49, 2), (48, 2)):
            talks = []

            def told(talk):
                talks.append(talk)
                return five if len(talks) <= many + 1 else ()

            self.assertEqual(len(paths(heard(1, told, rounds))) - 1, 60 * (many + 1))
        noting = Noting(lambda talk: five)
        with self.assertRaises(TooLarge):
            heard(1, noting, 2)
        self.assertEqual(len(noting.talks), 51)

    def test_what_comes_first_is_raised(self):
        five = tuple(answers(even(12)) for _ in range(5))
        for wrong, error in ((50, NoAnswer), (51, NoAnswer), (52, TooLarge)):
            talks = []

            def told(talk):
                talks.append(talk)
                return None if len(talks) == wrong else five

            with self.assertRaises(error):
                heard(1, told, 2)
            self.assertEqual(len(talks), min(wrong, 51))

    def test_errors_of_the_stranger_go_on(self):
        def gone(talk):
            if len(talk) == 1:
                raise KeyError("gone")
            return RIGHT

        with self.assertRaises(KeyError):
            heard(2, gone, 2)
        self.assertEqual(heard(2, gone, 1), heard(2, lambda talk: RIGHT, 1))


if __name__ == "__main__":
    unittest.main()
