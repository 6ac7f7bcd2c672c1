"""Mediators: who stands before a house without end, and answers as if it were another one, for ever."""

from tellsless.errors import NoMediator, NotAlike
from tellsless.machines import made_machine, parted
from tellsless.ratios import NOUGHT, ONE, added, is_number, multiplied

MOST_POSTS = 6
MOST_ASKS_DEEP = 4


def check_worlds(machine, other):
    """Raises NotAlike unless two machines have as many worlds."""
    if machine.worlds != other.worlds:
        raise NotAlike()


def is_move(thing, machine, other, posts, room):
    """Whether a thing is a move in which asks are at most room deep."""
    if not isinstance(thing, tuple) or len(thing) != 3 or not isinstance(thing[0], str):
        return False
    word, number, behind = thing
    if word == "tell":
        return is_number(number, 0, other.words - 1) and is_number(behind, 0, posts - 1)
    if word != "ask" or room == 0 or not is_number(number, 0, len(machine.rows[0]) - 1):
        return False
    if not isinstance(behind, tuple) or len(behind) != machine.words:
        return False
    return all([is_move(move, machine, other, posts, room - 1) for move in behind])


def is_post(thing, machine, other, posts):
    """Whether a thing is a tuple of a move for each question of the other machine."""
    if not isinstance(thing, tuple) or len(thing) != len(other.rows[0]):
        return False
    return all([is_move(move, machine, other, posts, MOST_ASKS_DEEP) for move in thing])


def is_mediator(machine, other, thing):
    """Whether a thing is a mediator from a machine to another one."""
    check_worlds(machine, other)
    if not isinstance(thing, tuple) or not 1 <= len(thing) <= MOST_POSTS:
        return False
    return all([is_post(post, machine, other, len(thing)) for post in thing])


def put_share(shares, key, share):
    """Adds a share to what stands under a key."""
    shares[key] = added(shares.get(key, NOUGHT), share)


def put_told(machine, world, move, stands, told):
    """Adds what a move tells, in a world, to a dict of triples: a word, a post, and the standing of the machine then.

    The machine is now at the standings of a dict, with their shares.
    """
    word, number, behind = move
    if word == "tell":
        for standing, share in stands.items():
            put_share(told, (number, behind, standing), share)
        return
    heard = [{} for _ in behind]
    for standing, share in stands.items():
        for answer, part, after in machine.rows[standing][number][world]:
            put_share(heard[answer], after, multiplied(share, part))
    for inner, after in zip(behind, heard):
        if len(after) > 0:
            put_told(machine, world, inner, after, told)


class Through:
    """A mediator and the machine before which it is, as one machine: its standings are numbers of pairs.

    The pairs are of a post of the mediator and of a standing of the machine; those that
    never come to be are left out.
    """

    def __init__(self, machine, mediator):
        self.machine = machine
        self.mediator = mediator
        self.pairs = [(0, 0)]
        self.numbers = {(0, 0): 0}

    def number_of(self, post, standing):
        """The number of a pair, which gets one if it has none."""
        if (post, standing) not in self.numbers:
            self.numbers[(post, standing)] = len(self.pairs)
            self.pairs.append((post, standing))
        return self.numbers[(post, standing)]

    def row(self, move, standing, world):
        """How a move answers in a world, the machine being at a standing."""
        told = {}
        put_told(self.machine, world, move, {standing: ONE}, told)
        return tuple([
            (word, told[(word, post, after)], self.number_of(post, after))
            for word, post, after in sorted(told)
        ])

    def all_rows(self):
        """The rows of the machine that both are."""
        rows = []
        while len(rows) < len(self.pairs):
            post, standing = self.pairs[len(rows)]
            rows.append(tuple([
                tuple([self.row(move, standing, world) for world in range(self.machine.worlds)])
                for move in self.mediator[post]
            ]))
        return tuple(rows)


def through(machine, other, mediator):
    """The Machine that answers as a mediator does by a machine, in the place of another one."""
    if not is_mediator(machine, other, mediator):
        raise NoMediator()
    return made_machine(machine.worlds, other.words, Through(machine, mediator).all_rows())


def is_lasting(machine, other, thing):
    """Whether a thing is a mediator with which a machine answers for ever as another one does."""
    if not is_mediator(machine, other, thing):
        return False
    return parted(through(machine, other, thing), other) is None
