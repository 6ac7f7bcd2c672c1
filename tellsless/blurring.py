"""Blurred houses: words told otherwise, by chance, and answers that are told alike mixed up.

A MIST is here a list of pairs (share, node): the nodes of a house at which one may stand,
each with the share with which the answers that lead there were told so. All nodes of
a mist have as many questions.
"""

from tellsless.errors import NoTable
from tellsless.houses import made_house
from tellsless.ratios import ONE, are_nought, are_shares, is_integral, multiplied, scaled_weights, total_weights
from tellsless.room import Room
from tellsless.trees import is_word

MOST_TOLD = 6


def words_in(node):
    """The words that stand at and behind a node, as the keys of a dict."""
    words = {}
    for question in node:
        for word, _, behind in question:
            words[word] = True
            for inner in words_in(behind):
                words[inner] = True
    return words


def is_told(thing):
    """Whether a thing is a pair of anything and a word."""
    return isinstance(thing, tuple) and len(thing) == 2 and is_word(thing[1])


def are_told(thing):
    """Whether a thing is a tuple of 1 to 6 pairs of shares of a whole and unlike words."""
    if not isinstance(thing, tuple) or not 1 <= len(thing) <= MOST_TOLD:
        return False
    if not all([is_told(pair) for pair in thing]):
        return False
    return are_shares([pair[0] for pair in thing]) and len(set([pair[1] for pair in thing])) == len(thing)


def is_key(words, thing):
    """Whether a thing is a word, or one of some words, which may be longer or have greater numbers."""
    if is_word(thing):
        return True
    return isinstance(thing, tuple) and all([is_integral(number) for number in thing]) and thing in words


def is_table(house, thing):
    """Whether a thing is a table by which a house can be blurred."""
    if not isinstance(thing, dict):
        return False
    words = words_in(house.tree)
    if not all([word in thing for word in words]):
        return False
    return all([is_key(words, key) and are_told(told) for key, told in thing.items()])


def told_in(mist, number, table):
    """All that can be told when a question is asked in a mist: a dict of words, with triples behind each.

    A triple has the weights with which an answer is told so, its share, and the node behind it.
    """
    found = {}
    for share, node in mist:
        for word, weights, behind in node[number]:
            if not are_nought(weights):
                for part, told in table[word]:
                    often = multiplied(share, part)
                    row = (scaled_weights(often, weights), often, behind)
                    found.setdefault(told + (len(behind),), []).append(row)
    return found


def blurred_question(mist, number, table, room):
    """The question with a number, asked in a mist."""
    found = told_in(mist, number, table)
    room.fill(len(found))
    answers = []
    for word in sorted(found):
        rows = found[word]
        weights = total_weights([row[0] for row in rows], len(rows[0][0]))
        behind = [(often, node) for _, often, node in rows]
        answers.append((word, weights, blurred_node(behind, table, room)))
    return tuple(answers)


def blurred_node(mist, table, room):
    """The node of who stands in a mist."""
    return tuple([blurred_question(mist, number, table, room) for number in range(len(mist[0][1]))])


def blurred(house, table):
    """The House of what is heard of a house if each word is told otherwise, by a table."""
    if not is_table(house, table):
        raise NoTable()
    return made_house(house.worlds, blurred_node([(ONE, house.tree)], table, Room()))
