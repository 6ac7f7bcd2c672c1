"""The program as a whole: the examples, [0.3] to [0.5] over all functions, and ways through many of them."""

import random
import sys
import unittest
from fractions import Fraction

from tellsless.blurring import blurred
from tellsless.bounds import most_paid
from tellsless.deciding import are_alike, can_stand, decided
from tellsless.desks import Desk
from tellsless.disks import Disk
from tellsless.errors import NoPath, NotLooks, TooLarge
from tellsless.houses import (
    House, begun, ends, hopeful, is_shaped, node_at, paths, rounds, weights_at,
)
from tellsless.joining import joined
from tellsless.looks import gathered, is_look, kept_questions, parting
from tellsless.machines import first_rounds, parted
from tellsless.mediators import is_lasting, through
from tellsless.plans import is_between, is_plan, led, passing
from tellsless.prices import are_prices, best_paid, is_against, prices
from tellsless.programs import Program
from tellsless.referees import is_test, paid
from tellsless.rooms import beside, hidden, tossed
from tellsless.running import house_of
from tellsless.servers import Server
from tellsless.sources import program_text, read_program
from tellsless.speaking import spoken
from tellsless.strangers import heard
from tellsless.tearing import torn
from tellsless.texts import house_text, read_house
from tellsless.vaults import Vault
from tellsless.worths import asker_gets, best_asker, luck, luckiest, worth, worth_unasked
from tests.engines import made_up_machine, made_up_mediator
from tests.test_running import Maker
from tests.test_strangers import stranger_of
from tests.things import CLEAR, COIN, HALF, NOUGHT, ONE, chance, made_up_between, made_up_house, made_up_test, teller

EVEN = (HALF, HALF)
GUESS = (EVEN, ((ONE, (((ONE, NOUGHT), ()), ((NOUGHT, ONE), ()))),))
HEAR = ("ask", 0, (("tell", 0, ()), ("tell", 1, ())))
GAINS = ((ONE, NOUGHT), (NOUGHT, ONE))


def many_words():
    """A look of 20 answers, with words of nine numbers: what a program tells of two coins."""
    toss = tuple(((1, 10), value) for value in range(10))
    body = (("toss", 1, toss), ("hear", 0, ("number", 0), 2)) + (("tell", ("cell", 1)),) * 7 + (("tell", ("cell", 2)),)
    return house_of(Program(2, 3, 1, body), (COIN,))


def beyond():
    """Houses that functions made, beyond the bounds of those that are made by name."""
    coins = House(2, COIN.tree * 3)
    return [
        many_words(),                       # 20 answers, words of nine numbers
        beside(coins, coins),               # six questions at the tree
        torn(begun(begun(COIN)), 3),        # ways of nine answers
        torn(torn(CLEAR, 3), 1),
        begun(begun(begun(begun(House(2, (((((), (ONE, ONE), begun(begun(begun(begun(COIN)))).tree),)),)))))),
    ]


class Examples(unittest.TestCase):
    def test_e01(self):
        self.assertEqual(paths(COIN), [(), ((0, 0),), ((0, 1),)])
        self.assertEqual(weights_at(COIN, ((0, 1),)), ((1, 4), (3, 4)))
        self.assertEqual(rounds(COIN), 1)

    def test_e02(self):
        between = ((HALF, (HEAR,)), ((1, 4), (("tell", 0, ()),)), ((1, 4), (("tell", 1, ()),)))
        self.assertIs(is_between(CLEAR, COIN, between), True)

    def test_e03(self):
        self.assertEqual(paid(CLEAR, GUESS), (1, 1))
        self.assertEqual(best_paid(COIN, CLEAR, GUESS), (3, 4))

    def test_e04(self):
        self.assertIs(can_stand(CLEAR, COIN), True)
        self.assertIs(can_stand(COIN, CLEAR), False)
        self.assertEqual(decided(COIN, CLEAR)[0], "against")

    def test_e05(self):
        self.assertEqual(worth(COIN, EVEN, GAINS), (3, 4))
        self.assertEqual(luck(COIN), (3, 2))

    def test_e06(self):
        program = Program(2, 2, 0, (
            ("toss", 1, (((3, 4), 0), ((1, 4), 1))), ("tell", ("same", ("cell", 0), ("cell", 1))),
        ))
        self.assertEqual(house_of(program, ()), House(2, ((
            ((0, 0), ((1, 4), (3, 4)), ()), ((1, 0), ((3, 4), (1, 4)), ()),
        ),)))

    def test_e07(self):
        look = House(2, ((((0,), EVEN, ()), ((1,), ((1, 4), (1, 4)), ()), ((2,), ((1, 4), (1, 4)), ())),))
        self.assertEqual(gathered(look).tree, ((((0,), ((1, 1), (1, 1)), ()),),))

    def test_e08(self):
        self.assertIs(are_alike(torn(CLEAR, 1), CLEAR), True)
        self.assertIs(can_stand(COIN, torn(COIN, 1)), False)

    def test_e09(self):
        vault = Vault((COIN,), COIN, 2)
        self.assertIs(vault.lets((), 0), True)
        self.assertIs(vault.lets(((0, 0),), 0), False)

    def test_e10(self):
        self.assertEqual(house_text(COIN), "worlds 2\n0 0 3/4 1/4\n0 1 1/4 3/4\n")


def nought_table(node, worlds, dice):
    """A table that asks each question as often, and pays what dice tell."""
    return tuple(
        ((1, len(node)), tuple(
            (tuple((dice.randrange(-3, 4), 1) for _ in range(worlds)), nought_table(answer[2], worlds, dice)) for answer in question
        ))
        for question in node
    )


class BeyondTheBounds(unittest.TestCase):
    def test_they_are_beyond(self):
        wide, many, long, _, longest = beyond()
        self.assertEqual(len(wide.tree[0]), 20)
        self.assertEqual({len(answer[0]) for answer in wide.tree[0]}, {9})
        self.assertEqual(len(many.tree), 6)
        self.assertEqual(rounds(long), 9)
        self.assertEqual(rounds(longest), 10)

    def test_houses(self):
        for house in beyond():
            found = paths(house)
            self.assertEqual([path for path in found if node_at(house, path) == ()], ends(house))
            self.assertEqual(max(map(len, found)), rounds(house))
            self.assertIs(is_shaped(house, house), True)
            for path in found[:50]:
                self.assertEqual(len(weights_at(house, path)), 2)
            with self.assertRaises(NoPath):
                node_at(house, found[-1] + ((99, 0),))
            self.assertLessEqual(len(paths(hopeful(house))), len(found))
            self.assertEqual(begun(house).tree[0][0][0], (len(house.tree),))
            # A house again by the bounds of its own, not by those of a House that is made by its name.
            self.assertEqual(house_text(house).count("\n"), len(found))

    def test_programs(self):
        for house in beyond():
            try:
                program = spoken(house)
            except TooLarge:
                continue
            self.assertEqual(house_of(program, ()), begun(hopeful(house)))
        listen = Program(2, 2, 2, (("hear", 0, ("number", 5), 1), ("tell", ("cell", 1)), ("hear", 1, ("cell", 1), 1), ("tell", ("cell", 1))))
        for house in beyond():
            told = house_of(listen, (house, house))
            self.assertEqual(told.worlds, 2)

    def test_plans_and_tests_and_papers(self):
        dice = random.Random(1)
        for house in beyond():
            self.assertIs(is_plan(house, house, passing(house)[0][1]), True)
            self.assertEqual(led(house, house, passing(house)), house)
            self.assertIs(is_between(house, house, joined(house, house, house, passing(house), passing(house))), True)
            between = made_up_between(dice, house, COIN)
            made = led(house, COIN, between)
            self.assertIs(can_stand(house, made), True)
            self.assertIs(is_between(house, made, decided(house, made)[1]), True)
            back = made_up_between(dice, COIN, house)
            self.assertIs(can_stand(COIN, led(COIN, house, back)), True)
            test = (EVEN, nought_table(house.tree, 2, dice))
            self.assertIs(is_test(house, test), True)
            self.assertLessEqual(chance(paid(house, test)), chance(best_paid(house, house, test)))
            self.assertIs(are_prices(COIN, house, test, prices(COIN, house, test)), True)
            self.assertEqual(best_paid(house, CLEAR, GUESS), prices(house, CLEAR, GUESS)[((), 0, ())])

    def test_the_main_fact(self):
        for house in beyond():
            for other in (COIN, CLEAR, House(2, ())) + tuple(beyond()[:2]):
                for first, second in ((house, other), (other, house)):
                    found = decided(first, second)
                    if found[0] == "between":
                        self.assertIs(is_between(first, second, found[1]), True)
                    else:
                        self.assertIs(is_against(first, second, (found[1], found[2])), True)
                    self.assertIs(can_stand(first, second), found[0] == "between")

    def test_worths(self):
        for house in beyond():
            asker = best_asker(house, EVEN, GAINS)
            self.assertEqual(asker_gets(house, EVEN, GAINS, asker), worth(house, EVEN, GAINS))
            self.assertEqual(
                chance(asker_gets(house, EVEN, GAINS, luckiest(house))), chance(luck(house)) * chance(worth_unasked(EVEN, GAINS))
            )

    def test_looks(self):
        wide, many = beyond()[:2]
        self.assertIs(is_look(wide), True)
        self.assertEqual(gathered(wide), gathered(COIN))
        self.assertIs(parting(wide, COIN), None)
        found = parting(wide, CLEAR)
        self.assertLess(chance(worth(wide, *found)), chance(worth(CLEAR, *found)))
        with self.assertRaises(NotLooks):
            parting(wide, many)
        six = first_rounds(through_six(), 1)
        self.assertEqual(kept_questions(six), (0,))

    def test_rooms(self):
        for house in beyond():
            self.assertEqual(len(paths(beside(house, House(2, ())))), len(paths(house)))
            share = (1, 3)
            self.assertIs(is_shaped(hidden(share, house, house), house), True)
            self.assertEqual(hidden(share, house, house), house)
            self.assertEqual(len(paths(tossed(share, house, COIN))), len(paths(house)) + len(paths(COIN)) + 1)
            words = {answer[0] for path in paths(house) for question in node_at(house, path) for answer in question}
            table = {word: ((ONE, word[:8]),) for word in words}
            self.assertIs(can_stand(house, blurred(house, table)), True)
        self.assertEqual(len(torn(many_words(), 1).tree[0]), 20)
        with self.assertRaises(TooLarge):
            torn(torn(begun(begun(COIN)), 3), 3)

    def test_vaults(self):
        wide, many = beyond()[:2]
        vault = Vault((wide, COIN), many, 1)
        self.assertEqual([vault.lets((), 0), vault.lets((), 1)], [True, True])
        self.assertEqual(len(Vault((wide,), COIN, 1).house().tree[0]), 20)
        vault = Vault((COIN,), wide, 2)
        self.assertIs(vault.lets(((0, 1),), 0), False)
        self.assertIs(is_against(wide, vault.wider(((0, 1),), 0), vault.refusal(((0, 1),), 0)), True)

    def test_bounds(self):
        for house in beyond():
            found = most_paid(house, COIN, CLEAR, GUESS)
            self.assertLessEqual(chance(found[0]), Fraction(3, 4))
            self.assertIs(is_between(house, found[1], found[2]), True)
        wide = many_words()
        test = (EVEN, nought_table(wide.tree, 2, random.Random(2)))
        found = most_paid(CLEAR, COIN, wide, test)
        self.assertEqual(paid(found[1], test), found[0])
        self.assertIs(is_between(COIN, found[1], found[3]), True)

    def test_servers_and_strangers(self):
        for house in beyond():
            disk = Disk()
            dice = random.Random(5)
            for number in range(12):
                server = Server(house, disk, 0, dice.randrange)
                node = node_at(house, server.path())
                if node:
                    self.assertEqual(server.hear(number, len(node) - 1)[:2], ("told", number))
            self.assertEqual(node_at(house, server.path()), ())
        self.assertEqual(rounds(heard(2, stranger_of(beyond()[4]), 8)), 8)


def through_six():
    """A machine that a mediator made, with more standings than one that is made by its name, of four questions."""
    dice = random.Random(8)
    machine = made_up_machine(dice, 2, 1, 4, 6, 6)
    return through(machine, machine, made_up_mediator(dice, machine, machine, 6, 1))


class Ways(unittest.TestCase):
    def test_programs_through_go_betweens_and_texts(self):
        seen = 0
        for seed in range(60):
            dice = random.Random(seed)
            program = Maker(seed).program()
            inside = tuple(made_up_house(dice, 2, 2, 2, 2) for _ in range(program.houses))
            try:
                house = house_of(read_program(program_text(program)), inside)
            except TooLarge:
                continue
            self.assertEqual(house, house_of(program, inside))
            if len(paths(house)) > 60:
                continue
            other = led(house, COIN, made_up_between(dice, house, COIN))
            found = decided(house, other)
            self.assertEqual(found[0], "between")
            self.assertEqual(led(house, other, found[1]), other)
            self.assertEqual(read_house(house_text(other)), other)
            if len(paths(house)) < 40:
                again = house_of(read_program(program_text(spoken(house))), ())
                self.assertEqual(again, begun(hopeful(house)))
                self.assertIs(are_alike(again, house), True)
                seen += 1
        self.assertGreater(seen, 20)

    def test_what_is_made_of_a_house_through_the_desk(self):
        for seed in range(12):
            dice = random.Random(seed)
            house = made_up_house(dice, 2, 2, 2, 2)
            other = led(house, COIN, made_up_between(dice, house, COIN))
            desk = Desk()
            for name, thing in (("h", house), ("o", other)):
                desk.tell(f"house {name} " + house_text(thing).replace("\n", "|"))
            self.assertEqual(desk.tell("decide h o"), "between")
            desk.tell("torn t o 1")
            self.assertEqual(desk.tell("decide t o"), "between")
            desk.tell("beside b h o")
            self.assertEqual(desk.tell("decide b h"), "between")

    def test_machines_and_houses(self):
        for seed in range(12):
            dice = random.Random(seed)
            machine = made_up_machine(dice, 2, 2, 1, 2, 2)
            mediator = made_up_mediator(dice, machine, machine, 2, 1)
            other = through(machine, machine, mediator)
            self.assertIs(is_lasting(machine, other, mediator), True)
            for many in range(3):
                self.assertIs(can_stand(first_rounds(machine, many), first_rounds(other, many)), True)
                house = first_rounds(other, many)
                self.assertEqual(read_house(house_text(house)), house)
            self.assertIs(parted(other, other), None)


class Everywhere(unittest.TestCase):
    def calls(self):
        """Calls of all functions that take houses and the like, each without arguments."""
        dice = random.Random(4)
        house, other = made_up_house(dice, 2, 2, 2, 3), made_up_house(dice, 2, 2, 1, 2)
        test = made_up_test(dice, other)
        between = made_up_between(dice, house, other)
        machine = made_up_machine(dice, 2, 2, 2, 3)
        mediator = made_up_mediator(dice, machine, machine, 2)
        words = {answer[0] for path in paths(house) for question in node_at(house, path) for answer in question}
        table = {word: ((ONE, ()),) for word in words}
        vault = Vault((COIN,), COIN, 2)
        disk = Disk()
        disk.write(("said", 0), (0, 0))
        return [
            lambda: paths(house), lambda: ends(house), lambda: hopeful(house), lambda: begun(house), lambda: spoken(hopeful(house)),
            lambda: led(house, other, between), lambda: passing(house), lambda: prices(house, other, test),
            lambda: joined(house, house, other, passing(house), between), lambda: decided(house, other), lambda: decided(other, house),
            lambda: best_asker(house, EVEN, GAINS), lambda: luckiest(house), lambda: parting(COIN, CLEAR), lambda: gathered(COIN),
            lambda: kept_questions(House(2, COIN.tree * 2)), lambda: beside(house, other), lambda: tossed(HALF, house, other),
            lambda: hidden(HALF, house, house), lambda: blurred(house, table), lambda: torn(other, 1), lambda: vault.house(),
            lambda: vault.wider(((0, 0),), 0), lambda: vault.refusal(((0, 0),), 0), lambda: most_paid(house, house, other, test),
            lambda: disk.cells(), lambda: Server(COIN, disk, 0, None).path(), lambda: heard(2, stranger_of(house), 2),
            lambda: first_rounds(machine, 2), lambda: parted(machine, through(machine, machine, mediator)),
            lambda: through(machine, machine, mediator), lambda: house_text(house), lambda: read_house(house_text(other)),
            lambda: program_text(spoken(hopeful(other))), lambda: read_program(program_text(spoken(hopeful(other)))),
        ]

    def test_equal_calls_give_equal_answers(self):
        for first, second in zip(self.calls(), self.calls()):
            told = first()
            self.assertEqual(told, first())
            self.assertEqual(told, second())

    def test_lists_and_dicts_are_new(self):
        for call in self.calls():
            first, second = call(), call()
            if isinstance(first, (list, dict)):
                self.assertIsNot(first, second)
                first.clear()
                self.assertEqual(call(), second)

    def test_they_need_few_frames(self):
        # No call raises RecursionError, even if not many frames are left.
        before = sys.getrecursionlimit()
        depth = len(__import__("inspect").stack())
        calls = self.calls()
        try:
            sys.setrecursionlimit(depth + 250)
            for call in calls:
                call()
            for house in beyond():
                decided(house, CLEAR)
                decided(CLEAR, house)
        finally:
            sys.setrecursionlimit(before)

    def test_things_of_other_kinds_are_never_equal(self):
        things = [
            COIN, Program(1, 1, 0, ()), Vault((COIN,), COIN, 1), made_up_machine(random.Random(1), 2, 2, 1, 1), Disk(), Desk(),
            Server(COIN, Disk(), 0, None), teller(3),
        ]
        for place, thing in enumerate(things):
            for other in things[:place] + things[place + 1:] + [None, 0, "", (), [], {}, TooLarge()]:
                self.assertFalse(thing == other)
                self.assertTrue(thing != other)


if __name__ == "__main__":
    unittest.main()
