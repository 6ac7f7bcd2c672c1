"""Plans and go-betweens: who stands before one house, and answers as if they were another one.

A HOLDER is here a tuple (share, weights, stand, wait): all who hold one plan, which
has a share, and stand behind one path of the house; the weights with which they
stand there, the node of the house, and how they wait. Shares are integers, so many
parts of a whole: great ones are added the faster so.
"""

from tellsless.errors import NotBetween
from tellsless.houses import check_alike, made_house
from tellsless.ratios import ONE, are_nought, are_shares, common_bottom, is_number, reduced, times_whole


def is_wait(thing, waiting, stand):
    """Whether a thing is a wait at a node of the other house, the holder standing at a node of the house."""
    if not isinstance(thing, tuple) or len(thing) != len(waiting):
        return False
    return all([is_move(move, question, stand) for move, question in zip(thing, waiting)])


def is_move(thing, question, stand):
    """Whether a thing is a move for a question of the other house, the holder standing at a node of the house."""
    if not isinstance(thing, tuple) or len(thing) != 3 or not isinstance(thing[0], str):
        return False
    word, number, behind = thing
    if word == "tell":
        return is_number(number, 0, len(question) - 1) and is_wait(behind, question[number][2], stand)
    if word != "ask" or not is_number(number, 0, len(stand) - 1):
        return False
    if not isinstance(behind, tuple) or len(behind) != len(stand[number]):
        return False
    return all([is_move(move, question, answer[2]) for move, answer in zip(behind, stand[number])])


def is_plan(house, other, thing):
    """Whether a thing is a plan from a house to another one."""
    check_alike(house, other)
    return is_wait(thing, other.tree, house.tree)


def is_shared_plan(house, other, thing):
    """Whether a thing is a pair of anything and a plan from a house to another one."""
    return isinstance(thing, tuple) and len(thing) == 2 and is_plan(house, other, thing[1])


def is_go_between(house, other, thing):
    """Whether a thing is a go-between from a house to another one."""
    if not isinstance(thing, tuple) or not all([is_shared_plan(house, other, pair) for pair in thing]):
        return False
    return are_shares([pair[0] for pair in thing])


def check_between(house, other, thing):
    """Raises NotBetween unless a thing is a go-between from a house to another one."""
    if not is_go_between(house, other, thing):
        raise NotBetween()


def tellings(share, weights, stand, move):
    """What is told by a move where some weights stand at a node of the house.

    A list of pairs: the number of an answer, and the holder right behind telling it.
    """
    word, number, behind = move
    if word == "tell":
        return [(number, (share, weights, stand, behind))]
    told = []
    for answer, inner in zip(stand[number], behind):
        # Where nobody ever stands nothing is ever told.
        if not are_nought(answer[1]):
            told.extend(tellings(share, answer[1], answer[2], inner))
    return told


def tellers_of(question, number, holders):
    """For each answer of the question with a number: the list of holders right behind telling it."""
    tellers = [[] for answer in question]
    for share, weights, stand, wait in holders:
        for told, teller in tellings(share, weights, stand, wait[number]):
            tellers[told].append(teller)
    return tellers


def weight_of(holders, world, whole):
    """The chance, in a world, that somebody of some holders is come to."""
    parts = common_bottom([weights[world] for _, weights, _, _ in holders])
    many = sum([share * times_whole(weights[world], parts) for share, weights, _, _ in holders])
    return reduced(many, whole * parts)


def led_node(node, worlds, holders, whole):
    """A node of the other house, with the weights with which holders, who wait there, answer behind it."""
    return tuple([
        tuple([
            (
                answer[0],
                tuple([weight_of(tellers, world, whole) for world in range(worlds)]),
                led_node(answer[2], worlds, tellers, whole),
            )
            for answer, tellers in zip(question, tellers_of(question, number, holders))
        ])
        for number, question in enumerate(node)
    ])


def led_house(house, other, between):
    """The House that a go-between makes in the place of another one."""
    whole = common_bottom([share for share, _ in between])
    ahead = (ONE,) * house.worlds
    holders = [(times_whole(share, whole), ahead, house.tree, plan) for share, plan in between]
    return made_house(other.worlds, led_node(other.tree, other.worlds, holders, whole))


def led(house, other, between):
    """The House that is shaped like another one, and answers as a go-between does by a house."""
    check_alike(house, other)
    check_between(house, other, between)
    return led_house(house, other, between)


def is_between(house, other, thing):
    """Whether a thing is a go-between that makes the other house."""
    check_alike(house, other)
    return is_go_between(house, other, thing) and led_house(house, other, thing) == other


def passing_wait(node):
    """The wait at a node of who asks the same node what is asked, and tells what is heard."""
    return tuple([
        ("ask", number, tuple([("tell", place, passing_wait(answer[2])) for place, answer in enumerate(question)]))
        for number, question in enumerate(node)
    ])


def passing(house):
    """The go-between from a house to itself that passes questions and answers on."""
    return ((ONE, passing_wait(house.tree)),)
