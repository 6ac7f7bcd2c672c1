"""Tests: referees who ask a house and pay for its answers."""

from tellsless.errors import NoTest
from tellsless.ratios import added, are_fractions, is_chance, is_prior, multiplied, total


def is_paying(thing, answer, worlds):
    """Whether a thing is a pair of pays for an answer and a table behind it."""
    if not isinstance(thing, tuple) or len(thing) != 2:
        return False
    return are_fractions(thing[0], worlds) and is_table(thing[1], answer[2], worlds)


def is_asking(thing, question, worlds):
    """Whether a thing is a pair of a chance and the rows for a question."""
    if not isinstance(thing, tuple) or len(thing) != 2 or not is_chance(thing[0]):
        return False
    rows = thing[1]
    if not isinstance(rows, tuple) or len(rows) != len(question):
        return False
    return all([is_paying(row, answer, worlds) for row, answer in zip(rows, question)])


def is_table(thing, node, worlds):
    """Whether a thing is the table of a test at a node."""
    if not isinstance(thing, tuple) or len(thing) != len(node):
        return False
    if not all([is_asking(asking, question, worlds) for asking, question in zip(thing, node)]):
        return False
    top, bottom = total([asking[0] for asking in thing])
    return top <= bottom


def is_test(house, thing):
    """Whether a thing is a test shaped like a house."""
    if not isinstance(thing, tuple) or len(thing) != 2:
        return False
    return is_prior(thing[0], house.worlds) and is_table(thing[1], house.tree, house.worlds)


def check_test(house, thing):
    """Raises NoTest unless a thing is a test shaped like a house."""
    if not is_test(house, thing):
        raise NoTest()


def paid_for(prior, weights, pays):
    """The sum over the worlds of prior, weight and pay."""
    return total([
        multiplied(multiplied(chance, weight), pay)
        for chance, weight, pay in zip(prior, weights, pays)
    ])


def paid_at(prior, node, table):
    """What is paid in the mean at and behind a node, but for the chances of the questions ahead."""
    means = []
    for question, (chance, rows) in zip(node, table):
        pays = [
            added(paid_for(prior, answer[1], row[0]), paid_at(prior, answer[2], row[1]))
            for answer, row in zip(question, rows)
        ]
        means.append(multiplied(chance, total(pays)))
    return total(means)


def paid(house, test):
    """What who passes the words on between a referee and a house is paid in the mean."""
    check_test(house, test)
    prior, table = test
    return paid_at(prior, house.tree, table)
