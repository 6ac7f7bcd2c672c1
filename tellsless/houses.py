"""Houses: what stands before whom, who asks and is answered by chances."""

from tellsless.errors import BadHouse, NoPath, NotAlike, TooLarge
from tellsless.ratios import ONE, are_nought, is_number
from tellsless.trees import answers_in, check_tree, outline, rounds_in, standings

MOST_ROUNDS = 12
MOST_ANSWERS = 3000


class House:
    """A house of some worlds: a tree of questions, answers and weights."""

    def __init__(self, worlds, tree):
        if not is_number(worlds, 1, 5):
            raise BadHouse(None)
        check_tree(worlds, tree)
        self.worlds = worlds
        self.tree = tree

    def __eq__(self, other):
        return isinstance(other, House) and self.worlds == other.worlds and self.tree == other.tree


def made_house(worlds, tree):
    """The House that a function makes: by other bounds than those of a House that is made by its name."""
    if rounds_in(tree) > MOST_ROUNDS or answers_in(tree) > MOST_ANSWERS:
        raise TooLarge()
    house = House(1, ())
    house.worlds = worlds
    house.tree = tree
    return house


def check_alike(house, other):
    """Raises NotAlike unless two houses have as many worlds."""
    if house.worlds != other.worlds:
        raise NotAlike()


def paths(house):
    """The paths of a house, in reading order."""
    return [standing[0] for standing in standings((), house.tree)]


def ends(house):
    """The paths of a house whose nodes have no questions, in reading order."""
    return [path for path, node in standings((), house.tree) if len(node) == 0]


def is_step(node, thing):
    """Whether a thing is the pair of a question at a node and an answer of it."""
    if not isinstance(thing, tuple) or len(thing) != 2:
        return False
    question, answer = thing
    if not is_number(question, 0, len(node) - 1):
        return False
    return is_number(answer, 0, len(node[question]) - 1)


def standing_at(house, path):
    """The pair of the weights and the node behind a path."""
    if not isinstance(path, tuple):
        raise NoPath()
    weights = (ONE,) * house.worlds
    node = house.tree
    for step in path:
        if not is_step(node, step):
            raise NoPath()
        question, answer = step
        weights = node[question][answer][1]
        node = node[question][answer][2]
    return (weights, node)


def node_at(house, path):
    """The node behind a path of a house."""
    return standing_at(house, path)[1]


def weights_at(house, path):
    """The weights of the last answer of a path of a house."""
    return standing_at(house, path)[0]


def rounds(house):
    """The most answers on a path of a house."""
    return rounds_in(house.tree)


def is_shaped(house, other):
    """Whether two houses are shaped alike."""
    return house.worlds == other.worlds and outline(house.tree) == outline(other.tree)


def hopeful_node(node):
    """A node without hopeless answers and what is behind them."""
    return tuple([
        tuple([
            (word, weights, hopeful_node(behind))
            for word, weights, behind in question
            if not are_nought(weights)
        ])
        for question in node
    ])


def hopeful(house):
    """The House without hopeless answers and what is behind them."""
    return made_house(house.worlds, hopeful_node(house.tree))


def counted_node(node):
    """A node in which each word is the pair of the answer's number and of the number of questions behind."""
    return tuple([
        tuple([
            ((number, len(answer[2])), answer[1], counted_node(answer[2]))
            for number, answer in enumerate(question)
        ])
        for question in node
    ])


def begun(house):
    """The House with one question and one answer ahead of a house whose words only count."""
    first = ((len(house.tree),), (ONE,) * house.worlds, counted_node(house.tree))
    return made_house(house.worlds, ((first,),))
