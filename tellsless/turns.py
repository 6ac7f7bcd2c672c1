"""Turns: where a question of the other house is due, and the holder stands at a place of a ground.

A DOING at a turn is a tuple (word, number, turns, gains): "tell" and the number of an
answer, or "ask" and the number of a question of the house; the turns to all of which it
leads, each with the next question or answer; and what it gains: pairs of a row and a
fraction. A NEED of an answer in a world is a row, in which telling it gains the weight
that stands; FREE if nothing is gained; or NEVER if it may not be told where one stands.
"""

from tellsless.ratios import NOUGHT

FREE = -1
NEVER = -2


def may_tell(weights, needs):
    """Whether an answer may be told where some weights stand: not in a world in which it may never be."""
    return all([weight == NOUGHT or need != NEVER for weight, need in zip(weights, needs)])


def gains_of(weights, needs):
    """What is gained by telling an answer where some weights stand: pairs (row, fraction)."""
    return [(need, weight) for weight, need in zip(weights, needs) if weight != NOUGHT and need >= 0]


class Turns:
    """All turns of a holder on a ground, numbered so that those behind a turn come ahead of it.

    The answers are, for each question of the other house, triples of an answer's number,
    its needs and the questions behind it. It begins with question 0 at place 0. Doings
    that lead where nothing can be done are left out.
    """

    def __init__(self, ground, answers):
        self.ground = ground
        self.answers = answers
        self.numbers = {}
        self.turns = []
        self.doings = []
        self.begin = self.turn(0, 0)

    def turn(self, question, place):
        """The number of a turn; None if nothing can be done there."""
        if (question, place) not in self.numbers:
            doings = self.tellings(question, place) + self.askings(question, place)
            self.numbers[(question, place)] = self.numbered(question, place, doings)
        return self.numbers[(question, place)]

    def numbered(self, question, place, doings):
        """The number that a turn gets, behind those to which its doings lead; None if there are no doings."""
        if len(doings) == 0:
            return None
        self.turns.append((question, place))
        self.doings.append(doings)
        return len(self.doings) - 1

    def tellings(self, question, place):
        """What can be told at a turn."""
        weights = self.ground.place_weights[place]
        found = []
        for number, needs, behind in self.answers[question]:
            if may_tell(weights, needs):
                turns = [self.turn(inner, place) for inner in behind]
                if None not in turns:
                    found.append(("tell", number, turns, gains_of(weights, needs)))
        return found

    def askings(self, question, place):
        """What can be asked at a turn; nothing if there is one answer alone: what is asked later helps as much."""
        if len(self.answers[question]) == 1:
            return []
        found = []
        for number, heard in self.ground.place_questions[place]:
            turns = [self.turn(question, inner) for _, inner in heard]
            if None not in turns:
                found.append(("ask", number, turns, []))
        return found

    def amounts_of(self, places, found):
        """How much of what is done where, as a dealer takes it, from the amounts of pairs of a turn and a doing.

        The places are the paths and numbers of the questions of the other house.
        """
        amounts = {}
        for (turn, doing), amount in found.items():
            if amount > 0:
                question, place = self.turns[turn]
                path, number = places[question]
                word, which, _, _ = self.doings[turn][doing]
                amounts.setdefault((path, number, place), {})[(word, which)] = amount
        return amounts
