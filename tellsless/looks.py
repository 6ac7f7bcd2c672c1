"""Looks: houses that are asked one question once; their plain forms, and what parts them."""

from tellsless.deciding import can_stand, decided
from tellsless.errors import NotLook, NotLooks, NotOneRound
from tellsless.houses import check_alike, made_house
from tellsless.ratios import (
    added_weights, are_nought, common_bottom, divided, scaled_weights, times_whole, total,
)
from tellsless.trees import rounds_in


def is_look(house):
    """Whether a house is a look: one question at its tree, and none behind."""
    return len(house.tree) == 1 and rounds_in(house.tree) == 1


def direction_of(weights):
    """The weights, not all NOUGHT, divided by their sum: the same for all multiples of them."""
    whole = total(weights)
    return tuple([divided(weight, whole) for weight in weights])


def put_together(question):
    """The weights of the answers of a question that are not hopeless; multiples of one another are added."""
    found = {}
    for _, weights, _ in question:
        if not are_nought(weights):
            direction = direction_of(weights)
            if direction in found:
                weights = added_weights(found[direction], weights)
            found[direction] = weights
    return list(found.values())


def ascending_weights(rows):
    """Some tuples of weights, ascending as numbers, from world 0 on."""
    whole = common_bottom([weight for weights in rows for weight in weights])
    numbers = sorted([tuple([times_whole(weight, whole) for weight in weights]) for weights in rows])
    back = (1, whole)
    return [scaled_weights(back, [(number, 1) for number in row]) for row in numbers]


def gathered(look):
    """The look whose answers are those of a look, multiples put together, in one order."""
    if not is_look(look):
        raise NotLook()
    rows = ascending_weights(put_together(look.tree[0]))
    question = tuple([((number,), weights, ()) for number, weights in enumerate(rows)])
    return made_house(look.worlds, (question,))


def kept_questions(house):
    """The questions of a house of one round that stay if those are struck for whose looks the others can stand."""
    if rounds_in(house.tree) != 1:
        raise NotOneRound()
    kept = list(range(len(house.tree)))
    for question in reversed(range(len(house.tree))):
        others = [other for other in kept if other != question]
        if len(others) > 0 and stand_for(house, others, question):
            kept = others
    return tuple(kept)


def stand_for(house, others, question):
    """Whether the house with some questions of a house can stand for the look of another one."""
    rest = made_house(house.worlds, tuple([house.tree[other] for other in others]))
    return can_stand(rest, made_house(house.worlds, (house.tree[question],)))


def parting(house, other):
    """A pair (prior, gains) by which the other one of two looks is worth more; None if there is none."""
    check_alike(house, other)
    if not is_look(house) or not is_look(other):
        raise NotLooks()
    found = decided(house, other)
    if found[0] == "between":
        return None
    prior, table = found[1]
    chance, rows = table[0]
    return (prior, tuple([scaled_weights(chance, pays) for pays, _ in rows]))
