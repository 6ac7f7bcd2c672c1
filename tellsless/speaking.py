"""Houses told back: a program for each house that is not too large.

The program has three cells: the world, the number of the question that was asked,
and that of the answer that was drawn. Behind each question and each answer it goes
on in a body of its own, which ends in a "stop": so it need not keep the way.
"""

from tellsless.errors import TooLarge
from tellsless.houses import hopeful
from tellsless.programs import Program
from tellsless.ratios import NOUGHT, ONE, divided
from tellsless.trees import MOST_ON_A_WAY, MOST_QUESTIONS, MOST_WORDS, answers_in, rounds_in

WORLD = 0
ASKED = 1
DRAWN = 2
CELLS = 3
MOST_SPOKEN = 80


def is_narrow(node):
    """Whether no node, at and behind a node, has too many questions, and no question too many answers."""
    if len(node) > MOST_QUESTIONS:
        return False
    return all([
        len(question) <= MOST_WORDS and all([is_narrow(answer[2]) for answer in question])
        for question in node
    ])


def when(cell, number, body):
    """The statement that does a body if a cell holds a number."""
    return ("if", ("same", ("cell", cell), ("number", number)), body, ())


def toss_in(question, ahead, world):
    """The statement that draws an answer of a question in a world, in which the answer ahead comes."""
    rows = [
        (divided(answer[1][world], ahead[world]), number)
        for number, answer in enumerate(question)
        if answer[1][world] != NOUGHT
    ]
    return ("toss", DRAWN, tuple(rows))


def node_body(node, ahead):
    """The body of what is done at a node; ahead are the weights behind which it stands."""
    if len(node) == 0:
        return ()
    asked = [when(ASKED, number, question_body(question, ahead)) for number, question in enumerate(node)]
    return (("ask", ASKED, len(node)), *asked)


def question_body(question, ahead):
    """The body of what is done when a question is asked."""
    tosses = [
        when(WORLD, world, (toss_in(question, ahead, world),))
        for world, weight in enumerate(ahead)
        if weight != NOUGHT
    ]
    behind = [
        when(DRAWN, number, node_body(answer[2], answer[1]))
        for number, answer in enumerate(question)
        if len(answer[2]) > 0
    ]
    return (*tosses, ("tell", ("cell", DRAWN)), *behind, ("stop",))


def spoken(house):
    """A Program that tells what stands before who asks the house, but for hopeless answers."""
    tree = hopeful(house).tree
    if answers_in(tree) > MOST_SPOKEN or rounds_in(tree) > MOST_ON_A_WAY or not is_narrow(tree):
        raise TooLarge()
    return Program(house.worlds, CELLS, 0, node_body(tree, (ONE,) * house.worlds))
