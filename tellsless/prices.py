"""Prices: what who holds a house can be paid at most in a test of another one, place by place."""

from tellsless.houses import check_alike
from tellsless.ratios import ONE, greatest_of, is_fraction, is_less, multiplied, total
from tellsless.referees import check_test, is_test, paid

# An ASKED is here a triple (path, number, rows): a question of the other house that is
# due, and for each of its answers the pays, times all the chances that they are paid
# for, and how many questions are behind. A STAND is a triple (place, weights, asks): a
# path of the house, the weights there, and for each question how many answers it has.


def asked_in(prior, path, node, table, way):
    """All that can be due at and behind a node of the other house; what is behind an answer comes later."""
    found = []
    for number, (question, (chance, rows)) in enumerate(zip(node, table)):
        after = multiplied(way, chance)
        pays = [
            (tuple([multiplied(after, multiplied(first, pay)) for first, pay in zip(prior, row[0])]), len(answer[2]))
            for row, answer in zip(rows, question)
        ]
        found.append((path, number, pays))
        for place, (row, answer) in enumerate(zip(rows, question)):
            found.extend(asked_in(prior, path + ((number, place),), answer[2], row[1], after))
    return found


def stands_in(place, weights, node):
    """All stands at and behind a place of the house; what is behind an answer comes later."""
    found = [(place, weights, [len(question) for question in node])]
    for number, question in enumerate(node):
        for answer, (_, inner, behind) in enumerate(question):
            found.extend(stands_in(place + ((number, answer),), inner, behind))
    return found


def all_asked(other, test):
    """All that can be due in a test of the other house."""
    prior, table = test
    return asked_in(prior, (), other.tree, table, ONE)


def all_stands(house):
    """All stands of a house."""
    return stands_in((), (ONE,) * house.worlds, house.tree)


def lows_of(asked, stand, found):
    """All that a price must not be below, by the prices behind it, which are found."""
    path, number, rows = asked
    place, weights, asks = stand
    lows = []
    for answer, (pays, many) in enumerate(rows):
        after = path + ((number, answer),)
        now = [multiplied(pay, weight) for pay, weight in zip(pays, weights)]
        lows.append(total(now + [found[(after, inner, place)] for inner in range(many)]))
    for question, many in enumerate(asks):
        lows.append(total([found[(path, number, place + ((question, answer),))] for answer in range(many)]))
    return lows


def least_prices(house, other, test):
    """The prices each of which is the least that it can be, those behind it being so."""
    stands = all_stands(house)
    found = {}
    for asked in reversed(all_asked(other, test)):
        for stand in reversed(stands):
            lows = lows_of(asked, stand, found)
            found[(asked[0], asked[1], stand[0])] = lows[greatest_of(lows)]
    return found


def sum_of(other, found):
    """The sum of prices for the other house."""
    return total([found[((), number, ())] for number in range(len(other.tree))])


def best_paid(house, other, test):
    """The most that a go-between from a house to another one can be paid in the mean in a test."""
    check_alike(house, other)
    check_test(other, test)
    return sum_of(other, least_prices(house, other, test))


def prices(house, other, test):
    """The least prices for a house, another one and a test that is shaped like the other one."""
    check_alike(house, other)
    check_test(other, test)
    return least_prices(house, other, test)


def are_right(house, other, test, thing):
    """Whether a thing is prices for a house, another one and a test."""
    all_due = all_asked(other, test)
    stands = all_stands(house)
    if not isinstance(thing, dict) or len(thing) != len(all_due) * len(stands):
        return False
    for asked in all_due:
        for stand in stands:
            if not is_fraction(thing.get((asked[0], asked[1], stand[0]))):
                return False
    return all([
        is_high(thing[(asked[0], asked[1], stand[0])], lows_of(asked, stand, thing))
        for asked in all_due
        for stand in stands
    ])


def is_high(price, lows):
    """Whether a price is below nothing that it must not be below."""
    return not any([is_less(price, low) for low in lows])


def are_prices(house, other, test, thing):
    """Whether a thing is prices for a house, another one and a test that is shaped like the other one."""
    check_alike(house, other)
    check_test(other, test)
    return are_right(house, other, test, thing)


def is_against(house, other, thing):
    """Whether a thing is a paper against a house, for another one: a test and prices with a sum below what is paid."""
    check_alike(house, other)
    if not isinstance(thing, tuple) or len(thing) != 2:
        return False
    test, found = thing
    if not is_test(other, test) or not are_right(house, other, test, found):
        return False
    return is_less(sum_of(other, found), paid(other, test))
