"""[10.2] and [10.3]: servers on disks."""

import random
import unittest
from fractions import Fraction
from itertools import product

from tellsless.disks import Disk
from tellsless.errors import NoDisk, NoThrow, NoWorld, Stopped
from tellsless.houses import House, begun, made_house, node_at, paths, weights_at
from tellsless.rooms import beside
from tellsless.servers import Server
from tellsless.tearing import torn
from tests.things import CLEAR, COIN, HALF, NOUGHT, ONE, chance, even, made_up_house, nested, strange

# Two rounds; in world 1 the first answer never comes, and nothing comes behind it.
LATE = House(2, (
    (((0,), (HALF, NOUGHT), ((((5,), (HALF, NOUGHT), ()),), (((6,), ((1, 6), NOUGHT), ()), ((7,), ((1, 3), NOUGHT), ())))),
     ((1,), (HALF, ONE), ((((8,), ((1, 8), (1, 3)), ()), ((9,), ((3, 8), (2, 3)), ())),))),
    (((2,), (ONE, ONE), ()),),
))


class Roll:
    """A die that tells what it is bidden to, and notes its sides."""

    def __init__(self, *throws):
        self.throws = list(throws)
        self.sides = []

    def __call__(self, sides):
        self.sides.append(sides)
        return self.throws.pop(0)


def never(sides):
    raise AssertionError("nothing is to be thrown")


def disk_of(*steps):
    disk = Disk()
    for number, step in enumerate(steps):
        disk.write(("said", number), step)
    return disk


class Making(unittest.TestCase):
    def test_worlds(self):
        for world in (0, 1):
            self.assertEqual(Server(COIN, Disk(), world, never).path(), ())
        for world in strange() + [2, 10 ** 29]:
            if type(world) is not int or world > 1 or world < 0:
                with self.assertRaises(NoWorld):
                    Server(COIN, Disk(), world, never)
                with self.assertRaises(NoWorld):
                    Server(COIN, None, world, never)
        Server(made_house(5, ()), Disk(), 4, never)
        with self.assertRaises(NoWorld):
            Server(House(1, ()), Disk(), 1, never)

    def test_no_disk(self):
        for thing in strange():
            if not isinstance(thing, Disk):
                with self.assertRaises(NoDisk):
                    Server(COIN, thing, 0, never)

    def test_right_disks(self):
        for world in (0, 1):
            for path in paths(LATE):
                disk = disk_of(*path)
                before = disk.written()
                if weights_at(LATE, path)[world] == NOUGHT:
                    with self.assertRaises(NoDisk):
                        Server(LATE, disk, world, never)
                else:
                    self.assertEqual(Server(LATE, disk, world, never).path(), path)
                self.assertEqual(disk.written(), before)

    def wrong(self, disk, house=LATE, world=0):
        before = (disk.cells(), disk.written())
        with self.assertRaises(NoDisk):
            Server(house, disk, world, never)
        self.assertEqual((disk.cells(), disk.written()), before)

    def test_cells_too_many_or_too_few(self):
        for cell in ("said", ("said",), ("said", 2), ("said", -1), ("said", "0"), ("Said", 2), ("said", 2, 2), (b"said", 2),
                     2, None, (), 0, ("said", (2,)), ("said", None), nested(119), len, ("said", 10 ** 29)):
            disk = disk_of((0, 0), (1, 1))
            disk.write(cell, (0, 0))
            self.wrong(disk)
            disk = Disk()
            disk.write(cell, (0, 0))
            self.wrong(disk)
        disk = Disk()
        disk.write(("said", 1), (0, 0))
        self.wrong(disk)
        for left in (0, 1):
            disk = Disk()
            disk.write(("said", left), (1, 0))
            disk.write(("said", 2), (0, 0))
            self.wrong(disk)

    def test_cells_with_flags_as_numbers(self):
        disk = Disk()
        disk.write(("said", False), (0, 0))
        self.wrong(disk)
        disk.write(("said", True), (1, 1))
        self.wrong(disk)

    def test_what_is_no_pair_of_the_path(self):
        for thing in strange() + [
            (0,), (0, 0, 0), [0, 0], (True, 0), (0, True), (False, False), (0, 2), (2, 0), (-1, 0), (0, -1), ((0,), 0), ("0", 0),
            (0, None), nested(119), (nested(118), nested(118)), {0: 0}, "00", b"00", (10 ** 29, 0),
        ]:
            self.wrong(disk_of(thing))
            self.wrong(disk_of((0, 0), thing))

    def test_paths_that_go_on_beyond_the_house(self):
        self.wrong(disk_of((1, 0), (0, 0)))
        self.wrong(disk_of((0, 0), (1, 1), (0, 0)))
        self.wrong(disk_of((0, 0)), House(2, ()))

    def test_answers_that_never_come_in_this_world(self):
        self.wrong(disk_of((0, 0)), LATE, 1)
        self.wrong(disk_of((0, 0), (0, 0)), LATE, 1)
        self.wrong(disk_of((0, 1)), CLEAR, 0)
        Server(CLEAR, disk_of((0, 1)), 1, never)

    def test_many_cells(self):
        self.wrong(disk_of(*[(0, 0)] * 2000))


class Hearing(unittest.TestCase):
    def test_an_ask_is_answered_and_written(self):
        disk, roll = Disk(), Roll(0, 2)
        server = Server(LATE, disk, 0, roll)
        self.assertEqual(server.hear(0, 0), ("told", 0, (0,)))
        self.assertEqual(server.path(), ((0, 0),))
        self.assertEqual(server.hear(1, 1), ("told", 1, (7,)))
        self.assertEqual(server.path(), ((0, 0), (1, 1)))
        self.assertEqual(disk.cells(), {("said", 0): (0, 0), ("said", 1): (1, 1)})
        self.assertEqual(disk.written(), 2)
        self.assertEqual(roll.sides, [2, 3])

    def test_an_ask_is_told_once_more(self):
        disk = disk_of((0, 0), (1, 1))
        server = Server(LATE, disk, 0, never)
        for _ in range(2):
            self.assertEqual(server.hear(0, 0), ("told", 0, (0,)))
            self.assertEqual(server.hear(1, 1), ("told", 1, (7,)))
        disk.power(0)
        self.assertEqual(server.hear(1, 1), ("told", 1, (7,)))
        self.assertEqual(disk.written(), 2)

    def test_all_throws(self):
        # In world 0: 1/8 and 3/8 of 1/2; the die has 4 sides. In world 1 it has 3.
        for world, sides, words in ((0, 4, [8, 9, 9, 9]), (1, 3, [8, 9, 9])):
            for throw in range(sides):
                roll = Roll(throw)
                server = Server(LATE, disk_of((0, 1)), world, roll)
                self.assertEqual(server.hear(1, 0), ("told", 1, (words[throw],)))
                self.assertEqual(roll.sides, [sides])

    def test_the_die_has_the_least_common_multiple_of_the_bottoms_as_its_sides(self):
        parts = ((1, 6), NOUGHT, (1, 4), (1, 3), (1, 4), NOUGHT)
        house = House(1, (tuple(((number,), (part,), ()) for number, part in enumerate(parts)),))
        told = []
        for throw in range(12):
            roll = Roll(throw)
            told.append(Server(house, Disk(), 0, roll).hear(0, 0)[2])
            self.assertEqual(roll.sides, [12])
        self.assertEqual(told, [(0,)] * 2 + [(2,)] * 3 + [(3,)] * 4 + [(4,)] * 3)
        roll = Roll(0)
        self.assertEqual(Server(CLEAR, Disk(), 1, roll).hear(0, 0), ("told", 0, (1,)))
        self.assertEqual(roll.sides, [1])

    def test_what_is_not_asked_is_no(self):
        for steps in ((), ((0, 0),), ((0, 0), (1, 1)), ((1, 0),)):
            disk = disk_of(*steps)
            server = Server(LATE, disk, 0, never)
            many = len(steps)
            right = {(number, step[0]) for number, step in enumerate(steps)}
            right |= {(many, question) for question in range(len(node_at(LATE, steps)))}
            for number in range(-2, 5):
                for question in range(-2, 5):
                    if (number, question) not in right:
                        self.assertEqual(server.hear(number, question), ("no",))
            for thing in strange() + [10 ** 29, -10 ** 29, nested(119), "0", (0,), [0]]:
                if type(thing) is not int or abs(thing) > 9:
                    for number in range(4):
                        self.assertEqual(server.hear(number, thing), ("no",))
                        self.assertEqual(server.hear(thing, number), ("no",))
                    self.assertEqual(server.hear(thing, thing), ("no",))
            self.assertEqual(server.path(), steps)
            self.assertEqual(disk.written(), many)

    def test_flags_are_no_numbers(self):
        disk = disk_of((0, 0))
        server = Server(LATE, disk, 0, never)
        for number, question in ((False, 0), (0, False), (False, False), (True, 0), (1, False), (True, True), (1, True)):
            self.assertEqual(server.hear(number, question), ("no",))
        self.assertEqual(disk.written(), 1)

    def test_what_is_no_throw(self):
        for throw in strange() + [4, -1, True, False, 10 ** 29, "0", (0,), nested(119)]:
            if type(throw) is int and 0 <= throw < 4:
                continue
            disk = disk_of((0, 1))
            server = Server(LATE, disk, 0, lambda sides: throw)
            with self.assertRaises(NoThrow):
                server.hear(1, 0)
            self.assertEqual(server.path(), ((0, 1),))
            self.assertEqual(disk.written(), 1)
            self.assertEqual(Server(LATE, disk, 0, Roll(0)).hear(1, 0), ("told", 1, (8,)))

    def test_throws_of_one_side(self):
        for throw in (1, -1, False, None):
            with self.assertRaises(NoThrow):
                Server(CLEAR, Disk(), 0, lambda sides: throw).hear(0, 0)

    def test_errors_of_the_die_go_on(self):
        class Lost(Exception):
            pass

        def lost(sides):
            raise Lost()

        disk = Disk()
        server = Server(COIN, disk, 0, lost)
        with self.assertRaises(Lost):
            server.hear(0, 0)
        self.assertEqual((disk.cells(), disk.written(), server.path()), ({}, 0, ()))
        self.assertEqual(Server(COIN, disk, 0, Roll(3)).hear(0, 0), ("told", 0, (1,)))

    def test_a_write_that_is_not_let(self):
        disk, roll = Disk(), Roll(0, 3, 1)
        server = Server(COIN, disk, 0, roll)
        disk.power(0)
        for _ in range(2):
            with self.assertRaises(Stopped):
                server.hear(0, 0)
            self.assertEqual((disk.cells(), disk.written(), server.path()), ({}, 0, ()))
        disk.power(1)
        self.assertEqual(server.hear(0, 0), ("told", 0, (0,)))
        self.assertEqual(server.hear(0, 0), ("told", 0, (0,)))
        self.assertEqual(roll.sides, [4, 4, 4])
        # What is no throw is told ahead of a write that is not let.
        other = Disk()
        other.power(0)
        with self.assertRaises(NoThrow):
            Server(COIN, other, 0, Roll(4)).hear(0, 0)

    def test_a_new_server_goes_on(self):
        disk = Disk()
        self.assertEqual(Server(LATE, disk, 0, Roll(1)).hear(0, 0), ("told", 0, (1,)))
        server = Server(LATE, disk, 0, Roll(0))
        self.assertEqual(server.hear(0, 0), ("told", 0, (1,)))
        self.assertEqual(server.hear(0, 1), ("no",))
        self.assertEqual(server.hear(1, 0), ("told", 1, (8,)))
        # The disk is read each time: the elder one knows it, too.
        self.assertEqual(Server(LATE, disk, 0, never).path(), server.path())

    def test_two_servers_over_one_disk(self):
        disk = Disk()
        first, second = Server(LATE, disk, 0, Roll(0)), Server(LATE, disk, 0, Roll(0, 0))
        self.assertEqual(first.hear(0, 0), ("told", 0, (0,)))
        self.assertEqual(second.hear(0, 0), ("told", 0, (0,)))
        self.assertEqual(second.hear(1, 1), ("told", 1, (6,)))
        self.assertEqual(first.path(), ((0, 0), (1, 0)))

    def test_houses_that_functions_made(self):
        for house in (torn(COIN, 3), beside(begun(COIN), torn(CLEAR, 1)), made_house(2, (even(60, worlds=2),) * 7)):
            for world in (0, 1):
                dice = random.Random(world)
                disk = Disk()
                number = 0
                path = ()
                while node_at(house, path):
                    question = dice.randrange(len(node_at(house, path)))
                    word = Server(house, disk, world, dice.randrange).hear(number, question)[2]
                    path = Server(house, disk, world, never).path()
                    self.assertEqual(node_at(house, path[:-1])[question][path[-1][1]][0], word)
                    number += 1
                    self.assertEqual(len(path), number)


def lost_asks(dice, house, world, questions):
    """What is told for each number if asks are lost, doubled and late, and the power fails; with the path at the end."""
    disk = Disk()
    told = {}
    asks = []
    number = 0
    for _ in range(400):
        if dice.randrange(3) == 0:
            disk.power(dice.choice((0, 0, 1, None)))
        if number < len(questions) and dice.randrange(2):
            asks.append((number, questions[number]))
        if asks and dice.randrange(2):
            ask = dice.choice(asks)
            try:
                heard = Server(house, disk, world, dice.randrange).hear(*ask)
            except Stopped:
                continue
            if heard != ("no",) and dice.randrange(2):
                told.setdefault(heard[1], set()).add(heard)
                number = max(number, heard[1] + 1)
    return told, Server(house, disk, world, never).path()


class EleventhFact(unittest.TestCase):
    def test_for_each_number_one_word_is_told(self):
        seen = 0
        for seed in range(60):
            dice = random.Random(seed)
            house = made_up_house(dice, 2, 4, 2, 3)
            world = dice.randrange(2)
            questions = [dice.randrange(2) for _ in range(4)]
            told, path = lost_asks(dice, house, world, questions)
            self.assertEqual([question for question, _ in path], questions[:len(path)])
            self.assertNotEqual(weights_at(house, path)[world], NOUGHT)
            for number, heard in told.items():
                question, answer = path[number]
                word = node_at(house, path[:number])[question][answer][0]
                self.assertEqual(heard, {("told", number, word)})
                seen += 1
        self.assertGreater(seen, 40)

    def rows_of_throws(self, house, world, questions, before=()):
        """Each row of throws, as far as questions are let: the path that comes, and the chance of the row."""
        sides = []

        def roll(many):
            sides.append(many)
            if len(sides) <= len(before):
                return before[len(sides) - 1]
            return 0

        disk = Disk()
        for number, question in enumerate(questions[:len(before) + 1]):
            Server(house, disk, world, roll).hear(number, question)
        if len(sides) == len(before):
            path = Server(house, disk, world, never).path()
            share = Fraction(1)
            for many in sides:
                share /= many
            return [(path, share)]
        return [
            found for throw in range(sides[-1])
            for found in self.rows_of_throws(house, world, questions, before + (throw,))
        ]

    def test_each_path_comes_with_its_weight(self):
        houses = [LATE, begun(LATE), torn(COIN, 1)]
        houses += [made_up_house(random.Random(seed), 2, 2, 2, 3) for seed in range(25)]
        for house in houses:
            for world in range(2):
                for questions in product(range(2), repeat=3):
                    come = {}
                    for path, share in self.rows_of_throws(house, world, questions):
                        come[path] = come.get(path, 0) + share
                    self.assertEqual(sum(come.values()), 1)
                    for path, share in come.items():
                        self.assertEqual(share, chance(weights_at(house, path)[world]))
                        self.assertGreater(share, 0)
                    # A path on which all that could be asked was asked comes if its weight is not NOUGHT.
                    for path in paths(house):
                        asked = tuple(question for question, _ in path)
                        ended = len(path) == 3 or questions[len(path)] >= len(node_at(house, path))
                        if asked == questions[:len(path)] and ended and weights_at(house, path)[world] != NOUGHT:
                            self.assertIn(path, come)


if __name__ == "__main__":
    unittest.main()
