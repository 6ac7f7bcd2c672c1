"""Houses put together: beside one another, by the toss of a die, or hidden behind one another."""

from tellsless.errors import NoShare, NotShaped, TooLarge
from tellsless.houses import MOST_ANSWERS, MOST_ROUNDS, check_alike, is_shaped, made_house
from tellsless.ratios import ONE, added, added_weights, is_share, less, multiplied_weights, scaled_weights
from tellsless.trees import standings


def lengths_of(house):
    """How many paths of a house there are of each length, () among them."""
    lengths = {}
    for path, _ in standings((), house.tree):
        lengths[len(path)] = lengths.get(len(path), 0) + 1
    return lengths


def mixed_ways(first, second):
    """In how many orders so many steps and so many others can be gone."""
    ways = 1
    for step in range(first):
        ways = ways * (second + step + 1) // (step + 1)
    return ways


def answers_beside(house, other):
    """How many answers two houses beside one another have."""
    lengths = lengths_of(other)
    many = 0
    for first, paths in lengths_of(house).items():
        for second, others in lengths.items():
            many += paths * others * mixed_ways(first, second)
    return many - 1


def beside_node(node, weights, other, other_weights):
    """The node of who stands at nodes of two houses, each behind some weights."""
    first = [
        tuple([
            ((0,) + word, multiplied_weights(inner, other_weights), beside_node(behind, inner, other, other_weights))
            for word, inner, behind in question
        ])
        for question in node
    ]
    second = [
        tuple([
            ((1,) + word, multiplied_weights(weights, inner), beside_node(node, weights, behind, inner))
            for word, inner, behind in question
        ])
        for question in other
    ]
    return tuple(first + second)


def beside(house, other):
    """The House at each of whose nodes one stands at a node of two houses, and may ask both."""
    check_alike(house, other)
    lengths = max(list(lengths_of(house))) + max(list(lengths_of(other)))
    if lengths > MOST_ROUNDS or answers_beside(house, other) > MOST_ANSWERS:
        raise TooLarge()
    sure = (ONE,) * house.worlds
    return made_house(house.worlds, beside_node(house.tree, sure, other.tree, sure))


def check_part(thing):
    """Raises NoShare unless a thing is a share below ONE."""
    if not is_share(thing) or thing == ONE:
        raise NoShare()


def rest_of(share):
    """What a share leaves of a whole."""
    return added(ONE, less(share))


def scaled_node(share, node):
    """A node behind which all weights are multiplied by a share."""
    return tuple([
        tuple([
            (word, scaled_weights(share, weights), scaled_node(share, behind))
            for word, weights, behind in question
        ])
        for question in node
    ])


def tossed(share, house, other):
    """The House that is the first of two with a share, else the other one, and tells which."""
    check_alike(house, other)
    check_part(share)
    sure = (ONE,) * house.worlds
    question = tuple([
        ((number,), scaled_weights(part, sure), scaled_node(part, tree))
        for number, part, tree in ((0, share, house.tree), (1, rest_of(share), other.tree))
    ])
    return made_house(house.worlds, (question,))


def hidden_node(share, rest, node, other):
    """A node of two that are shaped alike, its weights the share times the first one's, the rest times the other's."""
    return tuple([
        tuple([
            (
                first[0],
                added_weights(scaled_weights(share, first[1]), scaled_weights(rest, second[1])),
                hidden_node(share, rest, first[2], second[2]),
            )
            for first, second in zip(question, other_question)
        ])
        for question, other_question in zip(node, other)
    ])


def hidden(share, house, other):
    """The House that is the first of two, shaped alike, with a share, else the other one, and does not tell which."""
    check_alike(house, other)
    check_part(share)
    if not is_shaped(house, other):
        raise NotShaped()
    return made_house(house.worlds, hidden_node(share, rest_of(share), house.tree, other.tree))
