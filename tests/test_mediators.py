"""[12.3]: mediators."""

import random
import unittest

from tellsless.deciding import can_stand
from tellsless.errors import NoMediator, NotAlike, TooLarge
from tellsless.machines import Machine, first_rounds, made_machine, parted
from tellsless.mediators import is_lasting, is_mediator, through
from tests.engines import chances, counter, made_up_machine, made_up_mediator, mediated, steady
from tests.things import HALF, ONE, nested, spoiled, strange

COINS = steady(2, 2, (((0, (3, 4), 0), (1, (1, 4), 0)), ((0, (1, 4), 0), (1, (3, 4), 0))))
CLEAR = steady(2, 2, (((0, ONE, 0),), ((1, ONE, 0),)))
# Asks the coins twice: 0 and 0 tell 0, 1 and 1 tell 1, else 2.
TWICE = steady(2, 3, (
    ((0, (9, 16), 0), (1, (1, 16), 0), (2, (3, 8), 0)), ((0, (1, 16), 0), (1, (9, 16), 0), (2, (3, 8), 0)),
))


def tell(word, post=0):
    return ("tell", word, post)


def ask(*moves, question=0):
    return ("ask", question, moves)


BOTH = ((ask(ask(tell(0), tell(2)), ask(tell(2), tell(1))),),)


def deep(asks, leaf=None):
    """A move with asks so deep, in one of two words."""
    move = leaf or tell(0)
    for _ in range(asks):
        move = ask(tell(0), move)
    return move


class Judged(unittest.TestCase):
    def right(self, machine, other, thing):
        self.assertIs(is_mediator(machine, other, thing), True)
        through(machine, other, thing)

    def wrong(self, machine, other, thing):
        self.assertIs(is_mediator(machine, other, thing), False)
        self.assertIs(is_lasting(machine, other, thing), False)
        with self.assertRaises(NoMediator):
            through(machine, other, thing)

    def test_right_ones(self):
        self.right(COINS, TWICE, BOTH)
        self.right(COINS, TWICE, ((tell(2),),))
        self.right(COINS, CLEAR, ((ask(tell(1), tell(0)),),))
        self.right(COINS, CLEAR, ((tell(0, 5),),) * 6)
        self.right(TWICE, COINS, ((ask(tell(0), tell(1), tell(0)),),))

    def test_strange_things(self):
        for thing in strange():
            self.wrong(COINS, TWICE, thing)
            self.wrong(COINS, TWICE, (thing,))
            self.wrong(COINS, TWICE, ((thing,),))
            for place in range(3):
                for move in (tell(0), ask(tell(0), tell(1))):
                    parts = list(move)
                    parts[place] = thing
                    self.wrong(COINS, TWICE, ((tuple(parts),),)) if thing != "tell" or place else None
            self.wrong(COINS, TWICE, ((ask(tell(0), thing),),))

    def test_posts(self):
        self.wrong(COINS, TWICE, ())
        for many in range(1, 7):
            self.right(COINS, TWICE, ((tell(0, many - 1),),) * many)
            self.wrong(COINS, TWICE, ((tell(0, many),),) * many)
        self.wrong(COINS, TWICE, ((tell(0),),) * 7)
        self.wrong(COINS, TWICE, [(tell(0),)])
        self.wrong(COINS, TWICE, ([tell(0)],))
        self.wrong(COINS, TWICE, ((tell(0),), ()))

    def test_a_move_for_each_question_of_the_other_machine(self):
        two = Machine(2, 2, (((((0, ONE, 0),),) * 2,) * 2,))
        self.right(COINS, two, ((tell(0), tell(1)),))
        self.wrong(COINS, two, ((tell(0),),))
        self.wrong(COINS, two, ((tell(0),) * 3,))
        self.wrong(COINS, two, ((tell(0), tell(1)), (tell(0),)))
        self.right(two, COINS, ((ask(tell(0), tell(1), question=1),),))
        self.wrong(two, COINS, ((ask(tell(0), tell(1), question=2),),))
        self.wrong(COINS, two, ((ask(tell(0), tell(1), question=1), tell(0)),))

    def test_a_move_for_each_word(self):
        self.wrong(COINS, TWICE, ((ask(tell(0)),),))
        self.wrong(COINS, TWICE, ((ask(tell(0), tell(0), tell(0)),),))
        self.wrong(COINS, TWICE, ((ask(),),))
        self.wrong(COINS, TWICE, ((("ask", 0, [tell(0), tell(0)]),),))
        self.right(TWICE, COINS, ((ask(tell(0), tell(0), tell(0)),),))

    def test_words_and_posts_and_questions_beyond(self):
        for word in (-1, 3, True, False, None, "0", (0,), 10 ** 29):
            self.wrong(COINS, TWICE, ((tell(word),),))
            self.wrong(COINS, TWICE, ((ask(tell(0), tell(word)),),))
        for post in (-1, 1, True, False, None, "0", (0,), 10 ** 29):
            self.wrong(COINS, TWICE, ((tell(0, post),),))
        for question in (-1, 1, True, False, None, "0", (0,), 10 ** 29):
            self.wrong(COINS, TWICE, ((ask(tell(0), tell(0), question=question),),))

    def test_asks_within_asks(self):
        for asks in range(5):
            self.right(COINS, TWICE, ((deep(asks),),))
        for asks in (5, 6, 30, 50):
            self.wrong(COINS, TWICE, ((deep(asks),),))
        self.wrong(COINS, TWICE, ((deep(3, ask(deep(1), tell(0))),),))
        self.wrong(COINS, TWICE, ((deep(4, nested(100)),),))
        self.wrong(COINS, TWICE, ((ask(deep(4), tell(0)),),))

    def test_moves_of_other_forms(self):
        for move in (("tell", 0), ("tell", 0, 0, 0), ("tell",), (), ("Tell", 0, 0), (b"tell", 0, 0), ["tell", 0, 0], ("stop", 0, 0),
                     ("ask", 0), ("ask", 0, (tell(0), tell(0)), 0), (0, 0, 0)):
            self.wrong(COINS, TWICE, ((move,),))
            self.wrong(COINS, TWICE, ((ask(move, tell(0)),),))

    def test_all_ways_to_spoil(self):
        for thing in spoiled(((ask(tell(0), tell(1, 1)),), (tell(2),)), (-1, 3, 10 ** 29)):
            found = is_mediator(COINS, TWICE, thing)
            self.assertIs(type(found), bool)
            if found:
                through(COINS, TWICE, thing)

    def test_unlike_worlds_come_first(self):
        one = steady(1, 2, (((0, ONE, 0),),))
        for thing in (BOTH, None, 5, ()):
            for function in (is_mediator, through, is_lasting):
                with self.assertRaises(NotAlike):
                    function(one, COINS, thing)
                with self.assertRaises(NotAlike):
                    function(COINS, one, thing)


class Through(unittest.TestCase):
    def test_the_words_and_questions_of_the_other_machine(self):
        made = through(COINS, TWICE, BOTH)
        self.assertIs(type(made), Machine)
        self.assertEqual((made.worlds, made.words, len(made.rows[0])), (2, 3, 1))
        self.assertIs(parted(made, TWICE), None)
        two = Machine(2, 4, (((((0, ONE, 0),),) * 2,) * 3,))
        made = through(COINS, two, ((tell(0), ask(tell(3), tell(1)), tell(2)),))
        self.assertEqual((made.words, len(made.rows[0])), (4, 3))

    def check(self, machine, other, mediator, length):
        made = through(machine, other, mediator)
        self.assertEqual((made.worlds, made.words, len(made.rows[0])), (other.worlds, other.words, len(other.rows[0])))
        for world in range(machine.worlds):
            for rounds in range(length + 1):
                self.assertEqual(
                    chances(made, world, rounds), mediated(machine, mediator, other.words, world, rounds)
                )
        # All is right of it but that there may be more of everything.
        if len(made.rows) <= 6 and all(len(row) <= 12 for row in [r for s in made.rows for q in s for r in q]):
            self.assertEqual(Machine(made.worlds, made.words, made.rows), made)
        return made

    def test_it_answers_as_the_mediator_does(self):
        for seed in range(80):
            dice = random.Random(seed)
            worlds = dice.randrange(1, 3)
            machine = made_up_machine(dice, worlds, dice.randrange(1, 4), dice.randrange(1, 3), dice.randrange(1, 4), 3)
            other = made_up_machine(dice, worlds, dice.randrange(1, 4), dice.randrange(1, 3), dice.randrange(1, 3), 3)
            mediator = made_up_mediator(dice, machine, other, dice.randrange(1, 4), dice.randrange(4))
            self.check(machine, other, mediator, 2)

    def test_it_remembers_by_its_posts(self):
        # What the coin said is told one round late.
        late = ((ask(tell(0, 0), tell(0, 1)),), (ask(tell(1, 0), tell(1, 1)),))
        made = self.check(COINS, COINS, late, 4)
        self.assertEqual(parted(made, COINS), ((0,), (0,)))

    def test_beyond_the_bounds_of_a_machine(self):
        dice = random.Random(3)
        machine = made_up_machine(dice, 1, 6, 2, 6, 12)
        other = made_up_machine(dice, 1, 6, 2, 6, 12)
        made = self.check(machine, other, made_up_mediator(dice, machine, other, 6, 2), 1)
        self.assertGreater(len(made.rows), 6)
        self.assertIs(parted(made, made), None)
        self.assertEqual(first_rounds(made, 1).worlds, 1)
        # It may be passed on: to another mediator, too.
        again = through(made, other, made_up_mediator(dice, made, other, 3, 1))
        self.assertEqual(again.words, 6)
        with self.assertRaises(TooLarge):
            first_rounds(made_machine(1, 6, ((
                ((tuple((word, (1, 6), 0) for word in range(6))),),) * 9,
            )), 3)

    def test_equal_calls(self):
        self.assertEqual(through(COINS, TWICE, BOTH), through(COINS, TWICE, BOTH))


class Lasting(unittest.TestCase):
    def test_lasting_ones(self):
        self.assertIs(is_lasting(COINS, TWICE, BOTH), True)
        self.assertIs(is_lasting(CLEAR, CLEAR, ((ask(tell(0), tell(1)),),)), True)
        self.assertIs(is_lasting(counter(3), counter(3), ((ask(tell(0), tell(1)),),)), True)
        # Who counts to six by posts alone.
        posts = tuple((tell(0, post + 1),) for post in range(5)) + ((tell(1, 0),),)
        self.assertIs(is_lasting(counter(1), counter(6), posts), True)

    def test_others(self):
        self.assertIs(is_lasting(COINS, CLEAR, ((ask(tell(0), tell(1)),),)), False)
        self.assertIs(is_lasting(CLEAR, CLEAR, ((ask(tell(1), tell(0)),),)), False)
        posts = tuple((tell(0, post + 1),) for post in range(4)) + ((tell(1, 0),),)
        self.assertIs(is_lasting(counter(1), counter(6), posts), False)
        for thing in strange():
            self.assertIs(is_lasting(COINS, TWICE, thing), False)

    def test_made_up_ones(self):
        for seed in range(40):
            dice = random.Random(seed)
            machine = made_up_machine(dice, 2, 2, 2, 2, 3)
            mediator = made_up_mediator(dice, machine, made_up_machine(dice, 2, 2, 2, 1), 2)
            made = through(machine, made_up_machine(dice, 2, 2, 2, 1), mediator)
            other = made_machine(2, 2, made.rows)
            self.assertIs(is_lasting(machine, other, mediator), True)

    def asks(self, move):
        if move[0] == "tell":
            return 0
        return 1 + max(self.asks(inner) for inner in move[2])

    def test_the_thirteenth_fact(self):
        self.assertTrue(can_stand(first_rounds(COINS, 2), first_rounds(TWICE, 1)))
        self.assertTrue(can_stand(first_rounds(COINS, 4), first_rounds(TWICE, 2)))
        self.assertFalse(can_stand(first_rounds(COINS, 1), first_rounds(TWICE, 1)))
        several = 0
        for seed in range(60):
            dice = random.Random(seed)
            machine = made_up_machine(dice, 2, 2, 1, 2, 2)
            mediator = made_up_mediator(dice, machine, counter(1), dice.randrange(1, 3), dice.randrange(3))
            other = through(machine, steady(2, 2, (((0, ONE, 0),), ((0, ONE, 0),))), mediator)
            most = max([1] + [self.asks(move) for post in mediator for move in post])
            for rounds in range(3):
                if most * rounds <= 4:
                    self.assertTrue(can_stand(first_rounds(machine, most * rounds), first_rounds(other, rounds)))
                    several += most > 1
        self.assertGreater(several, 20)


if __name__ == "__main__":
    unittest.main()
