"""[12.1] and [12.2]: houses without end."""

import random
import unittest
from fractions import Fraction

from tellsless.errors import BadMachine, NoNumber, NotAlike, TooLarge
from tellsless.houses import House, paths
from tellsless.machines import Machine, first_rounds, parted
from tests.engines import chances, counter, made_up_machine, steady
from tests.things import COIN, HALF, NOUGHT, ONE, chance, nested, spoiled, strange

SURE = ((0, ONE, 0),)
# Two standings, two questions, two worlds, three words.
ROWS = (
    ((((0, HALF, 0), (0, (1, 4), 1), (2, (1, 4), 0)), SURE), (((1, ONE, 1),), ((1, (1, 3), 0), (2, (2, 3), 1)))),
    ((SURE, ((0, HALF, 0), (1, HALF, 0))), (SURE, SURE)),
)
RIGHT = Machine(2, 3, ROWS)


def with_row(row, standings=1):
    """The rows of a machine of one world, one question and some standings, which all have one row."""
    return (((row,),),) * standings


class Judged(unittest.TestCase):
    def part(self, *parts):
        with self.assertRaises(BadMachine) as caught:
            Machine(*parts)
        return caught.exception.part

    def test_attributes(self):
        self.assertEqual((RIGHT.worlds, RIGHT.words, RIGHT.rows), (2, 3, ROWS))
        self.assertIs(RIGHT.rows, ROWS)

    def test_equality(self):
        self.assertTrue(RIGHT == Machine(2, 3, ROWS))
        self.assertFalse(RIGHT != Machine(2, 3, ROWS))
        for other in (Machine(2, 4, ROWS), Machine(2, 3, ROWS[:1] + ((ROWS[1][0], ROWS[1][0]),)),
                      Machine(2, 3, ROWS + ROWS[1:]), steady(1, 3, (SURE,))):
            self.assertFalse(RIGHT == other)
            self.assertTrue(RIGHT != other)
        for thing in (None, (2, 3, ROWS), [], COIN, Machine, 3):
            self.assertFalse(RIGHT == thing)
            self.assertFalse(thing == RIGHT)

    def test_worlds_then_words_then_rows(self):
        for thing in strange() + [0, 6, -1, 10 ** 29]:
            if type(thing) is not int or not 1 <= thing <= 5:
                self.assertEqual(self.part(thing, thing, thing), ("worlds",))
                self.assertEqual(self.part(thing, 3, ROWS), ("worlds",))
            if type(thing) is not int or not 1 <= thing <= 6:
                self.assertEqual(self.part(2, thing, thing), ("words",))
                self.assertEqual(self.part(2, thing, ROWS), ("words",))
            if thing not in (nested(119), nested(119, 5)):
                self.assertEqual(self.part(2, 3, thing), ("rows",))
        self.assertEqual(self.part(0, 0, ()), ("worlds",))
        self.assertEqual(self.part(6, 7, ()), ("worlds",))
        self.assertEqual(self.part(5, 7, ()), ("words",))
        self.assertEqual(self.part(5, 6, ()), ("rows",))

    def test_rows(self):
        question = (SURE,)
        for rows in (
            (), ((),), ((), ()), [((question),)], ([question],), ((question,), [question]), ((question,),) * 7,
            ((question,) * 5,), ((question,), (question, question)), ((question, question), (question,)), ((question,), ()),
            ((question,), None), (5,), ((question,), 5), {}, "rows", ("rows",), nested(119),
        ):
            if rows != nested(119):
                self.assertEqual(self.part(1, 1, rows), ("rows",))
        self.assertEqual(self.part(1, 1, nested(119)), ("row", 0, 0, 0))

    def test_questions_ahead_of_their_rows(self):
        bad = ((5, ONE, 0),)
        for thing in strange() + [(SURE,), (SURE,) * 3, [SURE, SURE], (bad,), (bad,) * 3, [bad, bad], {0: SURE, 1: SURE}]:
            if type(thing) is not tuple or len(thing) != 2:
                self.assertEqual(self.part(2, 3, ((ROWS[0][0], thing), ROWS[1])), ("row", 0, 1, -1))
                self.assertEqual(self.part(2, 3, ((thing, thing), ROWS[1])), ("row", 0, 0, -1))
                self.assertEqual(self.part(2, 3, (ROWS[0], (thing, (bad, bad)))), ("row", 1, 0, -1))
                self.assertEqual(self.part(2, 3, (ROWS[0], ((SURE, bad), thing))), ("row", 1, 0, 1))

    def test_the_first_wrong_row(self):
        bad = ((5, ONE, 0),)
        for place in range(8):
            standing, question, world = place // 4, place // 2 % 2, place % 2
            rows = [[[SURE, SURE], [SURE, SURE]], [[SURE, SURE], [SURE, SURE]]]
            for later in range(place, 8):
                rows[later // 4][later // 2 % 2][later % 2] = bad
            rows = tuple(tuple(tuple(question) for question in questions) for questions in rows)
            self.assertEqual(self.part(2, 3, rows), ("row", standing, question, world))

    def wrong(self, row, words=3, standings=2):
        self.assertEqual(self.part(1, words, with_row(row, standings)), ("row", 0, 0, 0), row)

    def right(self, row, words=3, standings=2):
        self.assertEqual(Machine(1, words, with_row(row, standings)).rows, with_row(row, standings))

    def test_strange_rows(self):
        for thing in strange():
            self.wrong(thing)
            self.wrong((thing,))
            self.wrong(((0, ONE, 0), thing))
            for place in range(3):
                triple = [0, ONE, 0]
                triple[place] = thing
                if thing != (1, 1):
                    self.wrong((tuple(triple),))
            self.wrong(((0, (thing, 1), 0),))
            self.wrong(((0, (1, thing), 0),))

    def test_each_thing_that_can_be_wrong(self):
        for triple in (
            (3, ONE, 0), (-1, ONE, 0), (0, ONE, 2), (0, ONE, -1), (0, NOUGHT, 0), (0, (2, 1), 0), (0, (2, 2), 0), (0, HALF, 0),
            (0, (-1, 1), 0), (True, ONE, 0), (0, ONE, True), (False, ONE, 0), (0, True, 0), (0, (True, 1), 0), (0, (1, True), 0),
            (0, ONE), (0, ONE, 0, 0), (), [0, ONE, 0], (0, [1, 1], 0), (0, (1,), 0), ((0,), ONE, 0), ("0", ONE, 0), (0, 1, 0),
            (None, ONE, 0), (0, ONE, None), (nested(117), ONE, 0), (0, nested(117), 0), (0, ONE, nested(117)), (0, (1, 0), 0),
        ):
            self.wrong((triple,))
            self.wrong([(0, ONE, 0)])
        self.wrong(())
        self.wrong(((0, HALF, 0), (0, HALF, 0)))
        self.wrong(((0, HALF, 0), (1, (1, 4), 0), (0, (1, 4), 0)))
        self.wrong(((0, HALF, 0), (1, (1, 3), 0)))
        self.wrong(((0, HALF, 0), (1, (2, 3), 0)))
        self.wrong(((0, HALF, 0), (1, HALF, 0), (2, NOUGHT, 0)))
        self.wrong(((0, HALF, 0), (1, (2, 4), 0)))
        self.wrong(tuple((place // 6, (1, 13), place % 6) for place in range(13)), 6, 6)

    def test_at_the_bounds_it_is_right(self):
        self.right(tuple((place // 6, (1, 12), place % 6) for place in range(12)), 6, 6)
        self.right(((5, ONE, 5),), 6, 6)
        self.right(((0, HALF, 0), (0, HALF, 1)))
        self.right(((2, HALF, 0), (0, HALF, 0)))
        self.right(((0, (1, 10 ** 29), 0), (2, (10 ** 29 - 1, 10 ** 29), 1)))
        for worlds in range(1, 6):
            for words in range(1, 7):
                for questions in range(1, 5):
                    for standings in range(1, 7):
                        Machine(worlds, words, (((((words - 1, ONE, standings - 1),),) * worlds,) * questions,) * standings)

    def test_all_ways_to_spoil(self):
        rows = (((((0, HALF, 0), (1, HALF, 1)),),), ((((1, ONE, 0),),),))
        many = 0
        for thing in spoiled(rows, (-1, 2, 10 ** 29)):
            try:
                made = Machine(1, 2, thing)
            except BadMachine:
                many += 1
            else:
                self.assertIs(type(made.rows), tuple)
        self.assertGreater(many, 200)


class FirstRounds(unittest.TestCase):
    def test_no_rounds(self):
        self.assertEqual(first_rounds(RIGHT, 0), House(2, ()))

    def test_one_round(self):
        self.assertEqual(first_rounds(RIGHT, 1), House(2, (
            (((0,), ((3, 4), ONE), ()), ((2,), ((1, 4), NOUGHT), ())),
            (((1,), (ONE, (1, 3)), ()), ((2,), (NOUGHT, (2, 3)), ())),
        )))

    def test_all_questions_in_each_round(self):
        house = first_rounds(RIGHT, 2)
        behind = house.tree[0][0][2]
        # Behind the word 0 of question 0, in world 0: at standing 0 by 1/2, at standing 1 by 1/4.
        self.assertEqual(behind, (
            (((0,), ((5, 8), ONE), ()), ((2,), ((1, 8), NOUGHT), ())),
            (((0,), ((1, 4), NOUGHT), ()), ((1,), (HALF, (1, 3)), ()), ((2,), (NOUGHT, (2, 3)), ())),
        ))

    def test_made_up_machines(self):
        for seed in range(40):
            dice = random.Random(seed)
            worlds = dice.randrange(1, 4)
            machine = made_up_machine(dice, worlds, dice.randrange(1, 4), dice.randrange(1, 3), dice.randrange(1, 4), 4, seed % 5 == 0)
            for rounds in range(4 if machine.words * len(machine.rows[0]) < 4 else 3):
                house = first_rounds(machine, rounds)
                due = [chances(machine, world, rounds) for world in range(worlds)]
                come = {}

                def walk(node, questions, words):
                    if len(questions) < rounds:
                        self.assertEqual(len(node), len(machine.rows[0]))
                    else:
                        self.assertEqual(node, ())
                    for number, question in enumerate(node):
                        self.assertEqual([answer[0] for answer in question], sorted(answer[0] for answer in question))
                        for word, weights, behind in question:
                            self.assertTrue(any(weight != NOUGHT for weight in weights))
                            key = (questions + (number,), words + word)
                            if len(key[0]) == rounds:
                                come[key] = [chance(weight) for weight in weights]
                            walk(behind, *key)

                walk(house.tree, (), ())
                for key in due[0]:
                    row = [parts[key] for parts in due]
                    if rounds and any(row):
                        self.assertEqual(come.pop(key), row)
                self.assertEqual(come, {})

    def test_what_is_no_number_of_rounds(self):
        for thing in strange() + [5, -1, 10 ** 29]:
            if type(thing) is not int or not 0 <= thing <= 4:
                with self.assertRaises(NoNumber):
                    first_rounds(RIGHT, thing)

    def test_too_large(self):
        many = tuple((word, (1, 6), 0) for word in range(6))
        wide = steady(1, 6, (many,), (many,), (many,), (many,))
        self.assertEqual(len(paths(first_rounds(wide, 2))), 1 + 24 + 24 * 24)
        for rounds in (3, 4):
            with self.assertRaises(TooLarge):
                first_rounds(wide, rounds)
        with self.assertRaises(NoNumber):
            first_rounds(wide, 5)
        # 7 + 49 + 343 + 2401 = 2800 answers: three words to one question and four to the other one.
        three = tuple((word, (1, 3), 0) for word in range(3))
        four = tuple((word, (1, 4), 0) for word in range(4))
        self.assertEqual(len(paths(first_rounds(steady(1, 4, (three,), (four,)), 4))), 2801)
        with self.assertRaises(TooLarge):
            first_rounds(steady(1, 4, (four,), (four,)), 4)

    def test_at_each_number_of_rounds(self):
        for rounds in range(5):
            self.assertEqual(len(paths(first_rounds(counter(3), rounds))), 1 + rounds)


def brute(machine, other, most):
    """The least of the shortest pairs, up to a length, by trying all."""
    for length in range(most + 1):
        apart = set()
        for world in range(machine.worlds):
            first, second = chances(machine, world, length), chances(other, world, length)
            apart |= {key for key in first if first[key] != second[key]}
        if apart:
            return min(apart)
    return None


def changed(dice, machine):
    """Another machine that often answers as a machine: with a standing doubled, and perhaps a step changed."""
    rows = [[[list(row) for row in question] for question in questions] for questions in machine.rows]
    last = len(rows) - 1
    rows.append([[list(row) for row in question] for question in rows[last]])
    for questions in rows:
        for question in questions:
            for world, row in enumerate(question):
                question[world] = [
                    (word, share, last + 1 if after == last and dice.randrange(2) else after) for word, share, after in row
                ]
    if dice.randrange(3):
        row = dice.choice(dice.choice(dice.choice(rows)))
        step = dice.randrange(len(row))
        new = (dice.randrange(machine.words), row[step][1], dice.randrange(len(rows)))
        if (new[0], new[2]) not in [(word, after) for word, _, after in row]:
            row[step] = new
    return Machine(machine.worlds, machine.words, tuple(
        tuple(tuple(tuple(row) for row in question) for question in questions) for questions in rows
    ))


class Parted(unittest.TestCase):
    def test_a_machine_never_parts_from_itself(self):
        for seed in range(20):
            machine = made_up_machine(random.Random(seed), 2, 3, 2, 4)
            self.assertIs(parted(machine, machine), None)
            self.assertIs(parted(machine, Machine(2, 3, machine.rows)), None)

    def test_other_standings_that_answer_alike(self):
        half = ((0, HALF, 0), (1, HALF, 0))
        twice = (
            ((((0, (1, 4), 0), (0, (1, 4), 1), (1, HALF, 1)),),),
            ((((0, HALF, 0), (1, (1, 3), 1), (1, (1, 6), 0)),),),
        )
        self.assertIs(parted(steady(1, 2, (half,)), Machine(1, 2, twice)), None)
        # Standings that nobody comes to do not matter.
        never = ((((0, HALF, 0), (1, HALF, 0)),),), (((((1, ONE, 1),),)),)
        self.assertIs(parted(steady(1, 2, (half,)), Machine(1, 2, never)), None)

    def test_the_least_of_the_shortest(self):
        fair, unfair = ((0, HALF, 0), (1, HALF, 0)), ((0, (1, 3), 0), (1, (2, 3), 0))
        self.assertEqual(parted(steady(1, 2, (fair,)), steady(1, 2, (unfair,))), ((0,), (0,)))
        self.assertEqual(parted(steady(1, 2, (SURE,), (fair,)), steady(1, 2, (SURE,), (unfair,))), ((1,), (0,)))
        one, two = ((0, HALF, 0), (1, HALF, 0), ), ((0, HALF, 0), (2, HALF, 0))
        self.assertEqual(parted(steady(1, 3, (one,)), steady(1, 3, (two,))), ((0,), (1,)))
        # Worlds do not count: the second one parts by a lesser word.
        three = ((0, (1, 4), 0), (1, (1, 4), 0), (2, HALF, 0))
        self.assertEqual(parted(steady(2, 3, (one, three)), steady(2, 3, (two, fair))), ((0,), (0,)))

    def test_questions_count_ahead_of_words(self):
        # Behind question 0 and the word 0 question 1 parts, behind the word 1 question 0 does.
        def machine(shift):
            at = ((0, HALF, 1), (1, HALF, 2))
            parting = (((0, ONE, 0),),) if shift else (((1, ONE, 0),),)
            sure = (((0, ONE, 0),),)
            return Machine(1, 2, (((at,), sure), (sure, parting), (parting, sure)))

        self.assertEqual(parted(machine(False), machine(True)), ((0, 0), (1, 0)))
        self.assertEqual(brute(machine(False), machine(True), 3), ((0, 0), (1, 0)))

    def test_the_last_word_may_come_in_neither_as_often(self):
        self.assertEqual(parted(counter(3), counter(4)), ((0, 0, 0), (0, 0, 0)))

    def test_as_many_rounds_as_the_twelfth_fact_lets(self):
        for first in range(1, 7):
            for second in range(1, 7):
                rounds = min(first, second)
                words = (0,) * (rounds - 1) + (int(first == second),)
                self.assertEqual(parted(counter(first, 1, 3), counter(second, 2, 3)), ((0,) * rounds, words))
        # Who counts to six, and who never does: as many rounds as the standings together less one.
        never = Machine(1, 2, (((((0, ONE, 0),),),),))
        self.assertEqual(parted(counter(6), never), ((0,) * 6, (0,) * 6))
        # Two who go round by other turns.
        longest = 0
        for seed in range(400):
            dice = random.Random(seed)
            machine = made_up_machine(dice, 1, 2, 1, 3, 2)
            found = parted(machine, changed(dice, machine))
            if found is not None:
                self.assertLess(len(found[0]), 7)
                longest = max(longest, len(found[0]))
        self.assertGreater(longest, 2)

    def test_against_all_rows_of_questions_and_words(self):
        lengths = set()
        for seed in range(250):
            dice = random.Random(seed)
            worlds, words, questions = dice.randrange(1, 4), dice.randrange(1, 4), dice.randrange(1, 3)
            machine = made_up_machine(dice, worlds, words, questions, dice.randrange(1, 4), dice.randrange(1, 4))
            if dice.randrange(4):
                other = changed(dice, machine)
            else:
                other = made_up_machine(dice, worlds, words, questions, dice.randrange(1, 4), 2)
            most = min(len(machine.rows) + len(other.rows) - 1, 3 if words * questions > 3 else 4)
            found, due = parted(machine, other), brute(machine, other, most)
            if due is None and found is not None:
                self.assertGreater(len(found[0]), most)
                self.assertLess(len(found[0]), len(machine.rows) + len(other.rows))
            else:
                self.assertEqual(found, due)
            lengths.add(None if found is None else len(found[0]))
        self.assertLessEqual({None, 1, 2, 3}, lengths)

    def test_great_shares(self):
        for seed in range(20):
            dice = random.Random(seed)
            machine = made_up_machine(dice, 2, 2, 2, 3, 4, True)
            other = changed(dice, machine)
            most = 3
            due = brute(machine, other, most)
            if due is not None:
                self.assertEqual(parted(machine, other), due)
        less = Fraction(10 ** 28, 10 ** 29)
        more = less + Fraction(1, 10 ** 29)
        coins = [steady(1, 2, (((0, (part.numerator, part.denominator), 0), (1, ((1 - part).numerator, (1 - part).denominator), 0)),))
                 for part in (less, more)]
        self.assertEqual(parted(*coins), ((0,), (0,)))

    def test_not_alike(self):
        for other in (
            Machine(3, 3, ((((SURE,) * 3), ((SURE,) * 3)),)), Machine(2, 2, (((SURE,) * 2, (SURE,) * 2),)),
            Machine(2, 3, (((SURE,) * 2,),)), Machine(2, 3, (((SURE,) * 2,) * 3,)), Machine(1, 3, (((SURE,), (SURE,)),)),
        ):
            with self.assertRaises(NotAlike):
                parted(RIGHT, other)
            with self.assertRaises(NotAlike):
                parted(other, RIGHT)


if __name__ == "__main__":
    unittest.main()
