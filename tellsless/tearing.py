"""Torn houses: an answer may be cut off, and the question be asked anew."""

from tellsless.errors import NoNumber
from tellsless.houses import made_house
from tellsless.ratios import NOUGHT, ONE, divided, is_number, multiplied
from tellsless.room import Room

MOST_CUTS = 3


def weights_anew(ahead, before, weights):
    """The weights of an answer behind those ahead, if in the house it has some weights, behind those before it."""
    found = []
    for now, first, weight in zip(ahead, before, weights):
        if first == NOUGHT:
            found.append(NOUGHT)
        else:
            found.append(multiplied(now, divided(weight, first)))
    return tuple(found)


def torn_answer(way, ahead, cuts, answer, room):
    """An answer of the house, given at the end of a way."""
    word, weights, node = answer
    after = weights_anew(ahead, way[-1][0], weights)
    return (word, after, torn_node(way + [(weights, node)], after, cuts, room))


def torn_question(way, ahead, cuts, question, room):
    """A question of the house, asked at the end of a way."""
    room.fill(len(question))
    return tuple([torn_answer(way, ahead, cuts, answer, room) for answer in question])


def cut(way, ahead, cuts, room):
    """The question by which the last answer of a way is taken back."""
    room.fill(1)
    return (((), ahead, torn_node(way[:-1], ahead, cuts - 1, room)),)


def torn_node(way, ahead, cuts, room):
    """The node at the end of a way that stands, where so many cuts are left, behind the weights ahead.

    A way is a list of pairs: the weights, in the house, and the node that was come to.
    """
    questions = [torn_question(way, ahead, cuts, question, room) for question in way[-1][1]]
    if cuts > 0 and len(way) > 1:
        questions.append(cut(way, ahead, cuts, room))
    return tuple(questions)


def torn(house, times):
    """The House in which a cut can come behind an answer, so many times at most in all."""
    if not is_number(times, 0, MOST_CUTS):
        raise NoNumber()
    sure = (ONE,) * house.worlds
    return made_house(house.worlds, torn_node([(sure, house.tree)], sure, times, Room()))
