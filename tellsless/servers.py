"""Servers: a house that answers asks with numbers, over lines that lose, double and delay."""

from tellsless.disks import Disk
from tellsless.errors import NoDisk, NoThrow, NoWorld
from tellsless.houses import is_step, standing_at
from tellsless.ratios import NOUGHT, common_bottom, divided, is_integral, is_number, times_whole


def are_numbered(cells):
    """Whether the cells are just ("said", 0), ("said", 1) and so on."""
    if not all([("said", number) in cells for number in range(len(cells))]):
        return False
    # Flags are equal to 0 and 1, but no numbers.
    return all([is_integral(cell[1]) for cell in cells])


def said_in(cells):
    """What stands in the cells, in their order."""
    return tuple([cells[("said", number)] for number in range(len(cells))])


def can_come(house, world, steps):
    """Whether some things are the pairs of a path of a house, all answers of which can come in a world."""
    node = house.tree
    for step in steps:
        if not is_step(node, step):
            return False
        question, answer = step
        _, weights, node = node[question][answer]
        if weights[world] == NOUGHT:
            return False
    return True


def is_disk_of(house, world, thing):
    """Whether a thing is a Disk on which a path of a house stands that can come in a world, or nothing."""
    if not isinstance(thing, Disk):
        return False
    cells = thing.cells()
    return are_numbered(cells) and can_come(house, world, said_in(cells))


def thrown(chances, sides, throw):
    """The number of the first chance with which all so far, times the sides of a die, are more than a throw of it."""
    number = 0
    reached = times_whole(chances[0], sides)
    while reached <= throw:
        number += 1
        reached += times_whole(chances[number], sides)
    return number


class Server:
    """A server of a house in a world: all that it said stands on a disk, before it is told."""

    def __init__(self, house, disk, world, roll):
        if not is_number(world, 0, house.worlds - 1):
            raise NoWorld()
        if not is_disk_of(house, world, disk):
            raise NoDisk()
        self.served = house
        self.disk = disk
        self.world = world
        self.roll = roll

    def path(self):
        """The path that the disk tells."""
        return said_in(self.disk.cells())

    def hear(self, number, question):
        """Answers an ask: ("told", number, word), or ("no",) if it is none that is due or was answered so."""
        said = self.path()
        if is_number(number, 0, len(said) - 1) and is_integral(question) and question == said[number][0]:
            return self.told(said, number)
        weights, node = standing_at(self.served, said)
        if not is_number(number, len(said), len(said)) or not is_number(question, 0, len(node) - 1):
            return ("no",)
        step = (question, self.drawn(weights, node[question]))
        self.disk.write(("said", number), step)
        return self.told(said + (step,), number)

    def told(self, said, number):
        """What tells the answer with a number on a path."""
        question, answer = said[number]
        node = standing_at(self.served, said[:number])[1]
        return ("told", number, node[question][answer][0])

    def drawn(self, weights, question):
        """The number of an answer of a question, behind some weights, that a throw of the die draws."""
        chances = [divided(answer[1][self.world], weights[self.world]) for answer in question]
        sides = common_bottom(chances)
        roll = self.roll
        throw = roll(sides)
        if not is_number(throw, 0, sides - 1):
            raise NoThrow()
        return thrown(chances, sides, throw)
