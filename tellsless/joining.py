"""Go-betweens behind go-betweens: one who answers in the place of both."""

from tellsless.houses import check_alike
from tellsless.plans import check_between
from tellsless.ratios import multiplied


def joined_wait(first, second):
    """The wait of one who holds what is waited in second before who waits as first does."""
    return tuple([joined_move(first, move) for move in second])


def joined_move(first, move):
    """The move of one who does a second holder's move before who waits as first does."""
    word, number, behind = move
    if word == "tell":
        return ("tell", number, joined_wait(first, behind))
    return answered_move(first[number], behind)


def answered_move(move, moves):
    """The move of one who does a first holder's move, and goes on by that of moves which it has answered."""
    word, number, behind = move
    if word == "tell":
        return joined_move(behind, moves[number])
    return ("ask", number, tuple([answered_move(inner, moves) for inner in behind]))


def joined(house, other, third, first, second):
    """The go-between from a house to a third one that does what first and second, one behind the other, do."""
    check_alike(house, other)
    check_alike(other, third)
    check_between(house, other, first)
    check_between(other, third, second)
    return tuple([
        (multiplied(share, other_share), joined_wait(plan, other_plan))
        for share, plan in first
        for other_share, other_plan in second
    ])
