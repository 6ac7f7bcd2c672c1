"""Things that several tests use."""

from tellsless.errors import HouseError
from tellsless.houses import House
from tellsless.programs import Program

ONE = (1, 1)
NOUGHT = (0, 1)
HALF = (1, 2)

COIN = House(2, ((((0,), ((3, 4), (1, 4)), ()), ((1,), ((1, 4), (3, 4)), ())),))
CLEAR = House(2, ((((0,), ((1, 1), (0, 1)), ()), ((1,), ((0, 1), (1, 1)), ())),))


def nested(deep, within=()):
    """A tuple of tuples, so deep."""
    thing = within
    for _ in range(deep):
        thing = (thing,)
    return thing


def strange():
    """Objects of many kinds, each of which is wrong where something of a form is due."""
    return [
        None, True, False, NotImplemented, Ellipsis, 7, -1, 10 ** 29, "", "tell", b"", b"tell", bytearray(b"x"),
        [], [()], [[]], {}, {"a": 1}, {(0, 0): 1}, range(3), slice(1), memoryview(b"ab"), len, int, HouseError,
        HouseError(), iter([1]), (x for x in ()), {}.items(), COIN, House(1, ()), Program(1, 1, 0, ()),
        (None,), (True, False), ("tell",), (b"tell", 1), ([],), ({},), (range(2),), (COIN,), (NotImplemented,),
        nested(119), nested(119, 5), [nested(118)], (0,) * 99999, [0] * 99999, ((),) * 99999,
    ]


def chain(links, node=()):
    """A node on whose way so many answers stand, all sure, for one world."""
    for _ in range(links):
        node = ((((), (ONE,), node),),)
    return node


def even(many, node=(), worlds=1):
    """A question with so many answers of the same chance."""
    return tuple(((number,), ((1, many),) * worlds if many > 1 else (ONE,) * worlds, node) for number in range(many))
