"""[8.2], and of [8.4] what it says of blurred."""

import random
import unittest
from fractions import Fraction

from tellsless.blurring import blurred
from tellsless.deciding import can_stand
from tellsless.errors import NoTable, TooLarge
from tellsless.houses import House, begun, hopeful, made_house, node_at, paths, rounds, weights_at
from tests.things import (
    CLEAR, COIN, HALF, NOUGHT, ONE, chance, even, made_up_house, nested, pair, split, strange,
)

NOTHING = House(2, ())
PLAIN = {(0,): ((ONE, (0,)),), (1,): ((ONE, (1,)),)}
WORDS = [(), (0,), (1,), (7, 7), (99,) * 8]


def within(weights, node):
    """A node behind which all weights are multiplied by some weights."""
    return tuple(tuple(
        (word, tuple(pair(chance(one) * chance(two)) for one, two in zip(weights, inner)), within(weights, behind))
        for word, inner, behind in question
    ) for question in node)


def words_of(house):
    return {node_at(house, path[:-1])[path[-1][0]][path[-1][1]][0] for path in paths(house)[1:]}


def made_up_telling(dice):
    """What one word is told as, by chance."""
    many = dice.randrange(1, 4)
    pairs = zip(split(dice, Fraction(1), many), dice.sample(WORDS, many))
    return tuple((pair(share), word) for share, word in pairs if share)


def made_up_tables(dice, house):
    return {word: made_up_telling(dice) for word in sorted(words_of(house))}


def reckoned(house, table):
    """For each row of pairs (question, word) the weights in the blurred house, path by path: a dict."""
    found = {}
    for path in paths(house):
        ways = [((), Fraction(1))]
        for length in range(1, len(path) + 1):
            question, answer = path[length - 1]
            word, _, node = node_at(house, path[:length - 1])[question][answer]
            ways = [
                (way + ((question, told + (len(node),)),), often * chance(share))
                for way, often in ways
                for share, told in table[word]
            ]
        for way, often in ways:
            row = found.setdefault(way, [Fraction(0)] * house.worlds)
            for world, weight in enumerate(weights_at(house, path)):
                row[world] += often * chance(weight)
    return {way: tuple(row) for way, row in found.items() if any(row)}


def listed(house):
    """For each row of pairs (question, word) the weights in a house: a dict."""
    found = {}
    for path in paths(house):
        way = tuple(
            (question, node_at(house, path[:length])[question][answer][0])
            for length, (question, answer) in enumerate(path)
        )
        found[way] = tuple(map(chance, weights_at(house, path)))
    return found


class Blurred(unittest.TestCase):
    def check(self, house, table):
        made = blurred(house, table)
        self.assertEqual(made.worlds, house.worlds)
        self.assertEqual(listed(made), reckoned(house, table))
        for path in paths(made):
            node = node_at(made, path)
            if path:
                question, answer = path[-1]
                self.assertEqual(node_at(made, path[:-1])[question][answer][0][-1], len(node))
            for question in node:
                words = [answer[0] for answer in question]
                self.assertEqual(words, sorted(set(words)))
        self.assertEqual(len(made.tree), len(house.tree))
        return made

    def test_small_ones(self):
        self.assertEqual(self.check(COIN, PLAIN), House(2, (
            (((0, 0), ((3, 4), (1, 4)), ()), ((1, 0), ((1, 4), (3, 4)), ())),
        )))
        same = {(0,): ((ONE, (5,)),), (1,): ((ONE, (5,)),)}
        self.assertEqual(self.check(COIN, same), House(2, ((((5, 0), (ONE, ONE), ()),),)))
        turned = {(0,): (((3, 4), (0,)), ((1, 4), (1,))), (1,): (((1, 4), (0,)), ((3, 4), (1,)))}
        self.assertEqual(self.check(CLEAR, turned), House(2, (
            (((0, 0), ((3, 4), (1, 4)), ()), ((1, 0), ((1, 4), (3, 4)), ())),
        )))
        self.assertEqual(self.check(NOTHING, {}), NOTHING)

    def test_what_stands_behind_is_mixed(self):
        behind = House(2, ((
            ((0,), (ONE, NOUGHT), within((ONE, NOUGHT), COIN.tree)),
            ((1,), (NOUGHT, ONE), within((NOUGHT, ONE), COIN.tree)),
        ),))
        same = {(0,): ((ONE, (3,)),), (1,): ((ONE, (3,)),)}
        self.assertEqual(self.check(behind, same), House(2, ((
            ((3, 1), (ONE, ONE), ((((3, 0), (ONE, ONE), ()),),)),
        ),)))
        first = {(0,): ((HALF, (0,)), (HALF, (1,))), (1,): ((HALF, (0,)), (HALF, (1,)))}
        made = self.check(behind, first)
        self.assertEqual(made.tree[0][0], ((0, 1), (HALF, HALF), (
            (((0, 0), ((1, 4), (1, 4)), ()), ((1, 0), ((1, 4), (1, 4)), ())),
        )))

    def test_the_number_of_questions_behind_is_told(self):
        unlike = House(2, ((
            ((0,), (HALF, HALF), within((HALF, HALF), COIN.tree)),
            ((1,), ((1, 4), HALF), ()),
            ((2,), ((1, 4), NOUGHT), within(((1, 4), NOUGHT), COIN.tree * 2)),
        ),))
        table = {(word,): ((ONE, ()),) for word in range(3)}
        made = self.check(unlike, table)
        self.assertEqual([answer[0] for answer in made.tree[0]], [(0,), (1,), (2,)])
        self.assertEqual([len(answer[2]) for answer in made.tree[0]], [0, 1, 2])

    def test_several_questions_at_a_node(self):
        two = House(2, COIN.tree + CLEAR.tree)
        made = self.check(two, {(0,): ((ONE, (0,)),), (1,): ((HALF, (0,)), (HALF, (1,)))})
        self.assertEqual(made.tree[0], (((0, 0), ((7, 8), (5, 8)), ()), ((1, 0), ((1, 8), (3, 8)), ())))
        self.assertEqual(made.tree[1], (((0, 0), (ONE, HALF), ()), ((1, 0), (NOUGHT, HALF), ())))

    def test_hopeless_answers_are_left_out(self):
        never = House(2, ((
            ((0,), (ONE, ONE), ()),
            ((1,), (NOUGHT, NOUGHT), ((((2,), (NOUGHT, NOUGHT), ()),),)),
        ),))
        table = {(word,): ((ONE, (word,)),) for word in range(3)}
        self.assertEqual(self.check(never, table), House(2, ((((0, 0), (ONE, ONE), ()),),)))
        # Their words are due as keys all the same.
        for word in range(3):
            with self.assertRaises(NoTable):
                blurred(never, {key: table[key] for key in table if key != (word,)})

    def test_made_up_ones(self):
        for seed in range(300):
            dice = random.Random(seed)
            house = made_up_house(dice, 1 + seed % 5, 3, 2, 3, seed % 9 == 0)
            if len(paths(house)) < 40:
                self.check(house, made_up_tables(dice, house))

    def test_houses_that_functions_made(self):
        for seed in range(40):
            dice = random.Random(seed)
            house = made_up_house(dice, 2, 2, 2, 2)
            again = self.check(house, made_up_tables(dice, house))
            # Words of nine numbers are keys, too.
            for _ in range(2):
                again = self.check(again, made_up_tables(dice, again))
            self.check(begun(house), made_up_tables(dice, begun(house)))
            self.check(hopeful(house), made_up_tables(dice, hopeful(house)))
        long = blurred(COIN, {(0,): ((ONE, (1,) * 8),), (1,): ((ONE, (2,) * 8),)})
        self.assertEqual([answer[0] for answer in long.tree[0]], [(1,) * 8 + (0,), (2,) * 8 + (0,)])
        self.check(long, {(1,) * 8 + (0,): ((ONE, ()),), (2,) * 8 + (0,): ((ONE, (3,)),)})
        with self.assertRaises(NoTable):
            blurred(long, {(1,) * 8: ((ONE, ()),), (2,) * 8: ((ONE, (3,)),)})
        # Also words with numbers above 99.
        many = begun(made_house(2, (even(1, worlds=2),) * 130))
        self.check(many, {(130,): ((ONE, ()),), (0, 0): ((ONE, ()),)})

    def test_too_large(self):
        wide = made_house(1, (even(600),))
        six = {(word,): tuple((((1, 6)), (word % 100, word // 100, told)) for told in range(6)) for word in range(600)}
        five = {word: tuple(((1, 5), told) for _, told in rows[:5]) for word, rows in six.items()}
        self.assertEqual(len(paths(blurred(wide, five))) - 1, 3000)
        with self.assertRaises(TooLarge):
            blurred(wide, six)
        with self.assertRaises(NoTable):
            blurred(wide, {**six, (0,): ()})
        # Put together they are few.
        self.assertEqual(blurred(wide, {(word,): ((ONE, ()),) for word in range(600)}), House(1, ((((0,), (ONE,), ()),),)))
        long = House(1, ())
        for _ in range(8):
            long = made_house(1, ((((0,), (ONE,), long.tree),),))
        two = {(0,): ((HALF, (0,)), (HALF, (1,)))}
        self.assertEqual(len(paths(blurred(long, two))), 511)
        for _ in range(4):
            long = made_house(1, ((((0,), (ONE,), long.tree),),))
        self.assertEqual(rounds(blurred(long, {(0,): ((ONE, (0,)),)})), 12)
        with self.assertRaises(TooLarge):
            blurred(long, two)


class NoTables(unittest.TestCase):
    def wrong(self, table, house=COIN):
        with self.assertRaises(NoTable):
            blurred(house, table)

    def test_more_words_are_right(self):
        for word in ((), (2,), (99,) * 8, (0, 0)):
            self.assertEqual(blurred(COIN, {**PLAIN, word: ((ONE, (5,)),)}), blurred(COIN, PLAIN))
        self.assertEqual(blurred(NOTHING, PLAIN), NOTHING)

    def test_words_that_lack(self):
        for word in PLAIN:
            self.wrong({key: PLAIN[key] for key in PLAIN if key != word})
        self.wrong({})

    def test_keys_that_are_no_words(self):
        for key in (None, 5, "a", "", b"a", (100,), (-1,), ("a",), ((0,),), (None,), NotImplemented, range(2), len, ((),),
                    nested(8), nested(119), (0,) * 9, ((0, 1),) * 3):
            self.wrong({**PLAIN, key: ((ONE, (5,)),)})
            self.wrong({key: ((ONE, (5,)),)}, NOTHING)

    def test_what_is_told(self):
        third = (1, 3)
        right = [
            ((ONE, ()),), ((HALF, ()), (HALF, (0,))), tuple(((1, 6), (number,)) for number in range(6)),
            ((third, (0,)), ((2, 3), (99,) * 8)), (((1, 10 ** 29), (0,)), ((10 ** 29 - 1, 10 ** 29), (1,))),
        ]
        for told in right:
            blurred(COIN, {**PLAIN, (0,): told})
        wrong = [
            (), [(ONE, ())], ([ONE, ()],), ((ONE, []),), ((ONE, ()), (ONE, (1,))), ((HALF, ()),), ((HALF, ()), (HALF, ())),
            ((HALF, ()), (third, (1,))), ((ONE, (0,)), (NOUGHT, (1,))), (((3, 2), (0,)), ((-1, 2), (1,))), (((2, 2), ()),),
            ((True, ()),), (((True, 1), ()),), (((1, True), ()),), ((ONE, (100,)),), ((ONE, (-1,)),), ((ONE, (0,) * 9),),
            ((ONE, (True,)),), ((ONE, 0),), ((ONE,),), ((ONE, (), ()),), ONE, (ONE, ()), ((ONE, ("a",)),), (((), ONE),),
            tuple(((1, 7), (number,)) for number in range(7)), (([1, 1], ()),),
        ]
        for told in wrong + strange() + [nested(deep) for deep in (3, 100, 119)]:
            self.wrong({**PLAIN, (0,): told})
            self.wrong({**PLAIN, (1,): told})
            # Also for a word that does not stand in the house.
            self.wrong({**PLAIN, (7,): told})
            self.wrong({(7,): told}, NOTHING)
        for thing in strange():
            self.wrong({**PLAIN, (0,): (thing,)})
            self.wrong({**PLAIN, (0,): ((ONE, thing),)})
            self.wrong({**PLAIN, (0,): ((thing, ()),)})

    def test_things_of_all_kinds(self):
        for thing in strange():
            if not isinstance(thing, dict):
                self.wrong(thing)
                self.wrong(thing, NOTHING)
        self.wrong(list(PLAIN.items()))
        self.wrong(tuple(PLAIN.items()))
        self.wrong(nested(120))


class EighthFact(unittest.TestCase):
    def test_a_house_stands_for_what_it_is_blurred_to(self):
        for seed in range(120):
            dice = random.Random(seed)
            house = made_up_house(dice, 1 + seed % 4, 2, 2, 3)
            if len(paths(house)) < 20:
                made = blurred(house, made_up_tables(dice, house))
                if len(paths(made)) < 60:
                    self.assertIs(can_stand(house, made), True)

    def test_arguments_stay_and_equal_calls_give_equal_answers(self):
        rows = []
        for dice in (random.Random(5), random.Random(5)):
            house = made_up_house(dice, 2)
            table = made_up_tables(dice, house)
            rows.append((house, table, blurred(house, table)))
        self.assertEqual(*rows)


if __name__ == "__main__":
    unittest.main()
