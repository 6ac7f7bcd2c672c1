"""Nodes, of which houses are made: judged and measured."""

from tellsless.errors import BadHouse
from tellsless.ratios import ONE, are_chances, is_number, total_weights

MOST_QUESTIONS = 5
MOST_WORDS = 12
MOST_NUMBERS = 8
MOST_ON_A_WAY = 8
MOST_PASSED = 1500


def is_word(thing):
    """Whether a thing is a word."""
    if not isinstance(thing, tuple) or len(thing) > MOST_NUMBERS:
        return False
    return all([is_number(number, 0, 99) for number in thing])


def is_answer(thing, worlds):
    """Whether a thing is a triple of a word, a chance for each world, and anything."""
    if not isinstance(thing, tuple) or len(thing) != 3 or not is_word(thing[0]):
        return False
    return are_chances(thing[1], worlds)


def is_ascending(rows):
    """Whether each item of a list is above the one ahead of it."""
    return all([low < high for low, high in zip(rows, rows[1:])])


def check_tree(worlds, tree):
    """Raises BadHouse with the place of the first wrong thing of a tree, if there is one."""
    check_node(tree, (), (ONE,) * worlds)
    if answers_in(tree) > MOST_PASSED:
        raise BadHouse(())


def check_node(node, place, ahead):
    """Raises BadHouse for the first wrong thing at and behind a node; ahead are the weights behind which it stands."""
    if not isinstance(node, tuple) or len(node) > MOST_QUESTIONS:
        raise BadHouse(place)
    # A place has two numbers for each answer on the way.
    if len(node) > 0 and len(place) >= 2 * MOST_ON_A_WAY:
        raise BadHouse(place)
    for number, question in enumerate(node):
        check_question(question, place + (number,), ahead)


def check_question(question, place, ahead):
    """Raises BadHouse for the first wrong thing in a question and behind its answers."""
    if not isinstance(question, tuple) or not 1 <= len(question) <= MOST_WORDS:
        raise BadHouse(place)
    for number, answer in enumerate(question):
        if not is_answer(answer, len(ahead)):
            raise BadHouse(place + (number,))
    if not is_ascending([answer[0] for answer in question]):
        raise BadHouse(place)
    if total_weights([answer[1] for answer in question], len(ahead)) != ahead:
        raise BadHouse(place)
    for number, answer in enumerate(question):
        check_node(answer[2], place + (number,), answer[1])


def answers_in(node):
    """How many answers stand at and behind a node."""
    many = 0
    for question in node:
        for answer in question:
            many += 1 + answers_in(answer[2])
    return many


def rounds_in(node):
    """The most answers on a way from a node on."""
    return max([1 + rounds_in(answer[2]) for question in node for answer in question], default=0)


def standings(path, node):
    """The pairs (path, node) at and behind a node to which a path leads, in reading order."""
    found = [(path, node)]
    for number, question in enumerate(node):
        for place, answer in enumerate(question):
            found.extend(standings(path + ((number, place),), answer[2]))
    return found


def outline(node):
    """A node without its weights."""
    return tuple([
        tuple([(answer[0], outline(answer[2])) for answer in question])
        for question in node
    ])
