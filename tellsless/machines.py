"""Machines: houses without end."""

from tellsless.errors import BadMachine, NoNumber, NotAlike
from tellsless.houses import made_house
from tellsless.contests import least_parting
from tellsless.ratios import NOUGHT, ONE, added, are_nought, are_shares, is_number, multiplied, total
from tellsless.room import Room

MOST_STANDINGS = 6
MOST_ASKED = 4
MOST_TOLD = 6
MOST_STEPS = 12
MOST_FIRST = 4


def are_standings(thing):
    """Whether a thing is a tuple of 1 to 6 tuples of as many items, 1 to 4."""
    if not isinstance(thing, tuple) or not 1 <= len(thing) <= MOST_STANDINGS:
        return False
    if not all([isinstance(questions, tuple) and 1 <= len(questions) <= MOST_ASKED for questions in thing]):
        return False
    return all([len(questions) == len(thing[0]) for questions in thing])


def is_step(thing, words, standings):
    """Whether a thing is a triple of a word, anything and a standing."""
    if not isinstance(thing, tuple) or len(thing) != 3:
        return False
    return is_number(thing[0], 0, words - 1) and is_number(thing[2], 0, standings - 1)


def is_row(thing, words, standings):
    """Whether a thing is how a question is answered in a world."""
    if not isinstance(thing, tuple) or not 1 <= len(thing) <= MOST_STEPS:
        return False
    if not all([is_step(step, words, standings) for step in thing]):
        return False
    pairs = {(word, standing): True for word, _, standing in thing}
    return len(pairs) == len(thing) and are_shares([share for _, share, _ in thing])


def check_rows(worlds, words, rows):
    """Raises BadMachine for the first question, or row of one, that is none."""
    for standing, questions in enumerate(rows):
        for number, question in enumerate(questions):
            if not isinstance(question, tuple) or len(question) != worlds:
                raise BadMachine(("row", standing, number, -1))
            for world, row in enumerate(question):
                if not is_row(row, words, len(rows)):
                    raise BadMachine(("row", standing, number, world))


class Machine:
    """A house without end: at each standing, for each question and world, how it goes on."""

    def __init__(self, worlds, words, rows):
        if not is_number(worlds, 1, 5):
            raise BadMachine(("worlds",))
        if not is_number(words, 1, MOST_TOLD):
            raise BadMachine(("words",))
        if not are_standings(rows):
            raise BadMachine(("rows",))
        check_rows(worlds, words, rows)
        self.worlds = worlds
        self.words = words
        self.rows = rows

    def __eq__(self, other):
        return (
            isinstance(other, Machine)
            and self.worlds == other.worlds
            and self.words == other.words
            and self.rows == other.rows
        )


def made_machine(worlds, words, rows):
    """The Machine that a function makes: the bounds of a Machine that is made by its name do not bind it."""
    machine = Machine(1, 1, (((((0, ONE, 0),),),),))
    machine.worlds = worlds
    machine.words = words
    machine.rows = rows
    return machine


def gone_on(machine, stands, question, word):
    """Where a machine is if it answers a question by a word, from where it is now.

    Where it is: for each world a dict of its standings, with their weights.
    """
    found = []
    for world, weights in enumerate(stands):
        behind = {}
        for standing, weight in weights.items():
            for told, share, after in machine.rows[standing][question][world]:
                if told == word:
                    behind[after] = added(behind.get(after, NOUGHT), multiplied(weight, share))
        found.append(behind)
    return found


def rounds_node(machine, stands, rounds, room):
    """The node of so many rounds of a machine from where it is on."""
    if rounds == 0:
        return ()
    return tuple([
        tuple(rounds_answers(machine, stands, question, rounds, room))
        for question in range(len(machine.rows[0]))
    ])


def rounds_answers(machine, stands, question, rounds, room):
    """The answers to a question, so many rounds ahead of the end."""
    found = []
    for word in range(machine.words):
        behind = gone_on(machine, stands, question, word)
        weights = tuple([total(list(parts.values())) for parts in behind])
        if not are_nought(weights):
            room.fill(1)
            found.append(((word,), weights, rounds_node(machine, behind, rounds - 1, room)))
    return found


def first_rounds(machine, rounds):
    """The House of the first rounds of a machine."""
    if not is_number(rounds, 0, MOST_FIRST):
        raise NoNumber()
    stands = [{0: ONE} for _ in range(machine.worlds)]
    return made_house(machine.worlds, rounds_node(machine, stands, rounds, Room()))


def parted(machine, other):
    """The least of the shortest pairs (questions, words) that two machines answer by unlike chances; None if none."""
    if machine.worlds != other.worlds or machine.words != other.words:
        raise NotAlike()
    if len(machine.rows[0]) != len(other.rows[0]):
        raise NotAlike()
    return least_parting(machine, other)
