"""Things that several tests use."""

from fractions import Fraction
from itertools import product

from tellsless.desks import Desk
from tellsless.disks import Disk
from tellsless.errors import HouseError
from tellsless.houses import House
from tellsless.machines import Machine
from tellsless.programs import Program
from tellsless.servers import Server

ONE = (1, 1)
NOUGHT = (0, 1)
HALF = (1, 2)

COIN = House(2, ((((0,), ((3, 4), (1, 4)), ()), ((1,), ((1, 4), (3, 4)), ())),))
CLEAR = House(2, ((((0,), ((1, 1), (0, 1)), ()), ((1,), ((0, 1), (1, 1)), ())),))


def nested(deep, within=()):
    """A tuple of tuples, so deep."""
    thing = within
    for _ in range(deep):
        thing = (thing,)
    return thing


def strange():
    """Objects of many kinds, each of which is wrong where something of a form is due."""
    return [
        None, True, False, NotImplemented, Ellipsis, 7, -1, 10 ** 29, "", "tell", b"", b"tell", bytearray(b"x"),
        [], [()], [[]], {}, {"a": 1}, {(0, 0): 1}, range(3), slice(1), memoryview(b"ab"), len, int, HouseError,
        HouseError(), iter([1]), (x for x in ()), {}.items(), COIN, House(1, ()), Program(1, 1, 0, ()),
        Machine(1, 1, (((((0, ONE, 0),),),),)), Machine, Disk(), Desk(), Server(COIN, Disk(), 0, len), frozenset,
        (None,), (True, False), ("tell",), (b"tell", 1), ([],), ({},), (range(2),), (COIN,), (NotImplemented,),
        nested(119), nested(119, 5), [nested(118)], (0,) * 99999, [0] * 99999, ((),) * 99999,
    ]


def chain(links, node=()):
    """A node on whose way so many answers stand, all sure, for one world."""
    for _ in range(links):
        node = ((((), (ONE,), node),),)
    return node


def even(many, node=(), worlds=1):
    """A question with so many answers of the same chance."""
    return tuple(((number,), ((1, many),) * worlds if many > 1 else (ONE,) * worlds, node) for number in range(many))


def split(dice, whole, parts, great=False):
    """A chance, divided by chance into so many chances that add up to it; some of them are NOUGHT."""
    if whole == 0:
        return [Fraction(0)] * parts
    most = 10 ** 29 if great else 4
    rows = [dice.randrange(most) for _ in range(parts)]
    rows[dice.randrange(parts)] += 1
    return [whole * Fraction(row, sum(rows)) for row in rows]


def pair(number):
    """The fraction as the package writes it."""
    return (number.numerator, number.denominator)


def made_up_node(dice, ahead, deep, questions, answers, great=False):
    """A node by chance: so deep at most, with at most so many questions and answers at each place."""
    if deep == 0:
        return ()
    node = []
    for _ in range(dice.randrange(questions + 1)):
        many = dice.randrange(1, answers + 1)
        weights = list(zip(*[split(dice, chance, many, great) for chance in ahead]))
        node.append(tuple(
            ((number,) * number, tuple(map(pair, row)), made_up_node(dice, row, deep - 1, questions, answers, great))
            for number, row in enumerate(weights)
        ))
    return tuple(node)


def made_up_house(dice, worlds, deep=3, questions=2, answers=3, great=False):
    """A house by chance, often with hopeless answers."""
    return House(worlds, made_up_node(dice, [Fraction(1)] * worlds, deep, questions, answers, great))


def made_up_wait(dice, waiting, stand):
    """A wait at a node of the other house, by chance, for who stands at a node of the house."""
    return tuple(made_up_move(dice, question, stand) for question in waiting)


def made_up_move(dice, question, stand):
    """A move for a question, by chance."""
    if stand and dice.randrange(3):
        asked = dice.randrange(len(stand))
        return ("ask", asked, tuple(made_up_move(dice, question, answer[2]) for answer in stand[asked]))
    told = dice.randrange(len(question))
    return ("tell", told, made_up_wait(dice, question[told][2], stand))


def made_up_between(dice, house, other, most=3):
    """A go-between by chance, of at most so many plans."""
    shares = [share for share in split(dice, Fraction(1), dice.randrange(1, most + 1)) if share]
    return tuple((pair(share), made_up_wait(dice, other.tree, house.tree)) for share in shares)


def made_up_table(dice, node, worlds):
    """The table of a test at a node, by chance."""
    chances = split(dice, Fraction(dice.randrange(4), 3), len(node)) if node else []
    return tuple(
        (pair(chance), tuple(
            (tuple(pair(Fraction(dice.randrange(-9, 10), dice.randrange(1, 7))) for _ in range(worlds)),
             made_up_table(dice, answer[2], worlds))
            for answer in question
        ))
        for chance, question in zip(chances, node)
    )


def made_up_test(dice, house):
    """A test shaped like a house, by chance."""
    prior = tuple(map(pair, split(dice, Fraction(1), house.worlds)))
    return (prior, made_up_table(dice, house.tree, house.worlds))


def spoiled(thing, beyond=(-1000, 99)):
    """Things made of tuples, strings and numbers that are each wrong in just one place; beyond are wrong numbers."""
    if isinstance(thing, tuple):
        yield from (list(thing), thing + ((),), thing + (thing[:1] or ((),)), None, 0, "", [thing], (thing, thing, thing))
        if thing:
            yield from (thing[:-1], thing[1:])
        for place, inner in enumerate(thing):
            for other in spoiled(inner, beyond):
                yield thing[:place] + (other,) + thing[place + 1:]
    elif isinstance(thing, str):
        yield from (thing + " ", thing.upper(), thing.encode(), "", "stop", None, 0, (thing,), [thing])
    else:
        yield from beyond + (True, False, None, str(thing), b"1", (thing,), [thing])


def all_waits(waiting, stand):
    """All waits at a node of the other house of who stands at a node of the house."""
    return list(product(*[all_moves(question, stand) for question in waiting]))


def all_moves(question, stand):
    """All moves for a question of who stands at a node of the house."""
    moves = [("tell", told, wait) for told, answer in enumerate(question) for wait in all_waits(answer[2], stand)]
    for asked, heard in enumerate(stand):
        inner = [all_moves(question, answer[2]) for answer in heard]
        moves.extend(("ask", asked, chosen) for chosen in product(*inner))
    return moves


def plans_many(waiting, stand):
    """How many waits there are."""
    many = 1
    for question in waiting:
        many *= moves_many(question, stand)
    return many


def moves_many(question, stand):
    """How many moves there are."""
    many = sum(plans_many(answer[2], stand) for answer in question)
    for heard in stand:
        inner = 1
        for answer in heard:
            inner *= moves_many(question, answer[2])
        many += inner
    return many


def full_node(dice, ahead, deep, questions, answers, great=False):
    """A node by chance with just so many questions and answers everywhere, so deep."""
    if deep == 0:
        return ()
    node = []
    for _ in range(questions):
        weights = list(zip(*[split(dice, chance, answers, great) for chance in ahead]))
        node.append(tuple(
            ((number,), tuple(map(pair, row)), full_node(dice, row, deep - 1, questions, answers, great))
            for number, row in enumerate(weights)
        ))
    return tuple(node)


def full_house(dice, worlds, deep, questions, answers, great=False):
    """A house by chance with just so many questions and answers everywhere, so deep."""
    return House(worlds, full_node(dice, [Fraction(1)] * worlds, deep, questions, answers, great))


def made_up_look(dice, worlds, answers=4, great=False):
    """A look by chance, of at most so many answers."""
    return full_house(dice, worlds, 1, 1, dice.randrange(1, answers + 1), great)


def teller(worlds):
    """The look that tells the world."""
    return House(worlds, (tuple(
        ((number,), tuple(ONE if world == number else NOUGHT for world in range(worlds)), ())
        for number in range(worlds)
    ),))


def chance(fraction):
    """The number for which a fraction of the package stands."""
    return Fraction(*fraction)


def rearranged(text):
    """The texts in which one line lacks, stands twice, or has changed its place with another one."""
    lines = text.split("\n")[:-1]
    for place in range(len(lines)):
        yield "\n".join(lines[:place] + lines[place + 1:]) + "\n"
        yield "\n".join(lines[:place + 1] + lines[place:]) + "\n"
        for other in range(place):
            row = list(lines)
            row[place], row[other] = row[other], row[place]
            yield "\n".join(row) + "\n"


def with_other_signs(text):
    """The texts in which one sign lacks, is another one, or stands there in addition."""
    signs = "".join(map(chr, range(32, 127))) + "\n"
    for place in range(len(text)):
        yield text[:place] + text[place + 1:]
        for sign in signs:
            yield text[:place] + sign + text[place:]
            yield text[:place] + sign + text[place + 1:]
