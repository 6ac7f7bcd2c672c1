"""Courses of a program: where they stand, and what each statement makes of them.

A course stands at a POSITION: the number of a statement in the whole body, and
then, for each body within, which turn of its statement it is (of an "if", which
body) and the number of the statement in it; () is the end of the program.
Positions ascend as a course goes on. Its STATE is a pair: the cells, and where it
stands before each house inside. Courses of one position and one state go on
alike: they are put together, and their weights added.
"""

from tellsless.houses import node_at, weights_at
from tellsless.ratios import NOUGHT, ONE, added_weights, are_nought, divided, multiplied_weights, total_weights

NOTHING_TO_HEAR = 99


class Crowd:
    """Courses, with weights, put together where they stand alike."""

    def __init__(self):
        self.places = {}

    def put(self, position, state, weights):
        """Adds a course, but none that comes in no world."""
        if are_nought(weights):
            return
        states = self.places.setdefault(position, {})
        if state in states:
            weights = added_weights(states[state], weights)
        states[state] = weights

    def is_empty(self):
        """Whether there are no courses."""
        return len(self.places) == 0

    def take(self):
        """Takes the courses out that lag behind all others: their position, and a dict of their states."""
        position = min(list(self.places))
        return (position, self.places.pop(position))

    def courses(self):
        """All courses: triples of position, state and weights."""
        return [
            (position, state, weights)
            for position, states in self.places.items()
            for state, weights in states.items()
        ]

    def weights(self, worlds):
        """The weights of all courses, added."""
        return total_weights([course[2] for course in self.courses()], worlds)


def replaced(row, place, thing):
    """A tuple with a thing in the place of one of its items."""
    return row[:place] + (thing,) + row[place + 1:]


def body_at(body, position):
    """The body in which the last number of a position counts."""
    inner = body
    for place in range(0, len(position) - 1, 2):
        statement = inner[position[place]]
        inner = statement[2]
        if statement[0] == "if":
            inner = statement[2 + position[place + 1]]
    return inner


def statement_at(body, position):
    """The statement at a position; the end of the program does what a "stop" does."""
    if len(position) == 0:
        return ("stop",)
    return body_at(body, position)[position[-1]]


def behind(body, position):
    """The position of what is done when the statement at a position is done."""
    return landed(body, position[:-1] + (position[-1] + 1,))


def landed(body, position):
    """The position itself, or that of what is done next if it is the end of a body."""
    while position[-1] == len(body_at(body, position)):
        if len(position) == 1:
            return ()
        turn = position[-2]
        statement = statement_at(body, position[:-2])
        if statement[0] == "times" and turn + 1 < statement[1]:
            position = position[:-2] + (turn + 1, 0)
        else:
            position = position[:-3] + (position[-3] + 1,)
    return position


def entered(body, position, cells):
    """The position to which the "if" or "times" at a position leads."""
    statement = statement_at(body, position)
    if statement[0] == "times":
        if statement[1] == 0:
            return behind(body, position)
        return landed(body, position + (0, 0))
    if told_by(statement[1], cells) == 0:
        return landed(body, position + (1, 0))
    return landed(body, position + (0, 0))


def told_by(expression, cells):
    """The number that an E tells."""
    word = expression[0]
    if word == "cell":
        return cells[expression[1]]
    if word == "number":
        return expression[1]
    first = told_by(expression[1], cells)
    second = told_by(expression[2], cells)
    if word == "plus":
        return (first + second) % 100
    if word == "times":
        return first * second % 100
    if word == "same":
        return int(first == second)
    return int(first < second)


def stand_at(house, path):
    """Where who is led along a path stands before a house: None where nothing can be asked any more.

    So courses are put together that came to different ends of it.
    """
    if len(node_at(house, path)) == 0:
        return None
    return path


def after_hearing(statement, state, inside):
    """What becomes of a state by a "hear": a list of states with their chances, world by world."""
    _, number, expression, cell = statement
    cells, stands = state
    house = inside[number]
    path = stands[number]
    if path is None:
        return [((replaced(cells, cell, NOTHING_TO_HEAR), stands), (ONE,) * house.worlds)]
    node = node_at(house, path)
    ahead = weights_at(house, path)
    asked = told_by(expression, cells) % len(node)
    states = []
    for place, answer in enumerate(node[asked]):
        stand = stand_at(house, path + ((asked, place),))
        after = (replaced(cells, cell, place % 100), replaced(stands, number, stand))
        states.append((after, chances_behind(ahead, answer[1])))
    return states


def chances_behind(ahead, weights):
    """The chances of an answer behind that ahead of it.

    In a world in which the one ahead never comes no course has come so far:
    there any chance will do.
    """
    chances = []
    for before, weight in zip(ahead, weights):
        if before == NOUGHT:
            chances.append(NOUGHT)
        else:
            chances.append(divided(weight, before))
    return tuple(chances)


def outcomes(statement, state, inside, worlds):
    """What becomes of a state by a "set", "toss" or "hear": a list of states with their chances, world by world."""
    if statement[0] == "hear":
        return after_hearing(statement, state, inside)
    cells, stands = state
    if statement[0] == "toss":
        return [
            ((replaced(cells, statement[1], value), stands), (share,) * worlds)
            for share, value in statement[2]
        ]
    number = told_by(statement[2], cells)
    return [((replaced(cells, statement[1], number), stands), (ONE,) * worlds)]


def step(program, inside, position, states, crowd):
    """Puts into a crowd what becomes of the states at a position by its statement, of which nothing is seen."""
    statement = statement_at(program.body, position)
    if statement[0] in ("if", "times"):
        for state, weights in states.items():
            crowd.put(entered(program.body, position, state[0]), state, weights)
        return
    after = behind(program.body, position)
    for state, weights in states.items():
        for other, chances in outcomes(statement, state, inside, program.worlds):
            crowd.put(after, other, multiplied_weights(weights, chances))


def show(body, position, states, seen):
    """Sorts the states at a position by what is seen of its statement: a number told, an ask, or the end."""
    statement = statement_at(body, position)
    for state, weights in states.items():
        sign = ("stop", 0)
        after = position
        if statement[0] == "ask":
            sign = ("ask", statement[2])
        if statement[0] == "tell":
            sign = ("tell", told_by(statement[1], state[0]))
            after = behind(body, position)
        crowd = seen.setdefault(sign, Crowd())
        crowd.put(after, state, weights)


def seen_next(program, inside, crowd):
    """Lets all courses of a crowd, which is used up, go on until something of them is seen.

    A dict: what is seen, a pair of the statement's word and a number, and the
    crowd of which it is seen: behind a "tell", but still at an "ask".
    """
    seen = {}
    while not crowd.is_empty():
        position, states = crowd.take()
        if statement_at(program.body, position)[0] in ("tell", "ask", "stop"):
            show(program.body, position, states, seen)
        else:
            step(program, inside, position, states, crowd)
    return seen


def starting(program, inside):
    """The crowd of a program at its begin: a course for each world."""
    crowd = Crowd()
    position = landed(program.body, (0,))
    stands = tuple([stand_at(house, ()) for house in inside])
    for world in range(program.worlds):
        cells = replaced((0,) * program.cells, 0, world)
        crowd.put(position, (cells, stands), replaced((NOUGHT,) * program.worlds, world, ONE))
    return crowd


def asked_crowd(program, crowd, question):
    """The crowd of courses that all stand at an "ask", of which a question is asked now."""
    after = Crowd()
    for position, state, weights in crowd.courses():
        statement = statement_at(program.body, position)
        cells = replaced(state[0], statement[1], question)
        after.put(behind(program.body, position), (cells, state[1]), weights)
    return after
