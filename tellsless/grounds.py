"""Grounds: houses on which holders go, as far as it helps them, with numbers for their places.

A question that tells nothing of the world, and behind which nothing does, need not be
asked: dice tell as much. And where nobody ever stands nothing need be thought of.
"""

from tellsless.ratios import ONE, are_nought
from tellsless.silence import is_silent


class Ground:
    """The places of a house, with their weights and the questions that help there.

    The weights and the questions of the place with a number stand under it in two
    lists. A question is a pair: its number, and pairs of the number of an answer that
    is not hopeless and of the place behind it. The tree is the place 0.
    """

    def __init__(self, house):
        self.place_weights = []
        self.place_questions = []
        self.walk(house.tree, (ONE,) * house.worlds)

    def walk(self, node, weights):
        """Gives a number to a node, behind which some weights stand, and to those behind it; tells its own."""
        place = len(self.place_weights)
        self.place_weights.append(weights)
        self.place_questions.append([])
        for number, question in enumerate(node):
            if not is_silent(question, weights):
                self.place_questions[place].append((number, self.walk_behind(question)))
        return place

    def walk_behind(self, question):
        """Gives numbers to the nodes behind the answers of a question: pairs of an answer and the place behind it."""
        return [
            (number, self.walk(answer[2], answer[1]))
            for number, answer in enumerate(question)
            if not are_nought(answer[1])
        ]

    def places_behind(self, place, question):
        """The places behind the answers of a question that helps at a place: a dict of the numbers of the answers."""
        for number, heard in self.place_questions[place]:
            if number == question:
                return {answer: inner for answer, inner in heard}
        return {}
