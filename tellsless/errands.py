"""Errands: one question of the other house, and those behind its answers, for who stands at the tree of a house.

TARGETS are the weights that have to be met: row by row one for an answer and a world.
Left out are what is met if all others are (in each world the last answer that comes),
questions that tell nothing (dice answer them), doings by which an answer would come in
a world in which it never does, and those that lead where nothing else is left.
"""

from tellsless.ratios import NOUGHT, are_nought
from tellsless.silence import is_silent
from tellsless.turns import FREE, NEVER, Turns


def last_likely(question, world):
    """The number of the last answer of a question that comes in a world; -1 if none does."""
    last = -1
    for number, answer in enumerate(question):
        if answer[1][world] != NOUGHT:
            last = number
    return last


class Errand:
    """All turns of an errand, and the targets that their doings help to meet."""

    def __init__(self, ground, path, number, question):
        self.ground = ground
        # For each question: its path and number; triples of an answer's number, its needs, the questions behind;
        # and a dict of the weights of these answers.
        self.places = []
        self.answers = []
        self.told_weights = []
        self.targets = []
        self.take(path, number, question)
        # The gains in each row are reckoned by its target.
        self.units = self.targets
        self.walks = Turns(ground, self.answers)
        self.turns = self.walks.turns
        self.doings = self.walks.doings
        self.begin = self.walks.begin

    def take(self, path, number, question):
        """Takes in a question at the node behind a path, and those behind it; tells what number it has here."""
        taken = len(self.places)
        self.places.append((path, number))
        self.answers.append([])
        self.told_weights.append({})
        needs = self.needs_of(question)
        for place, answer in enumerate(question):
            if not are_nought(answer[1]):
                behind = self.take_behind(path + ((number, place),), answer)
                self.answers[taken].append((place, needs[place], behind))
                self.told_weights[taken][place] = answer[1]
        return taken

    def take_behind(self, path, answer):
        """Takes in the questions behind an answer that tell anything; their numbers here."""
        return [
            self.take(path, number, question)
            for number, question in enumerate(answer[2])
            if not is_silent(question, answer[1])
        ]

    def needs_of(self, question):
        """For each answer of a question, world by world: the row of its target, FREE, or NEVER if it may not come."""
        lasts = [last_likely(question, world) for world in range(len(question[0][1]))]
        return [
            [self.need(weight, last == number) for weight, last in zip(answer[1], lasts)]
            for number, answer in enumerate(question)
        ]

    def need(self, weight, is_last):
        """The row of a weight that has to be met, which gets one now; FREE or NEVER if it needs none."""
        if weight == NOUGHT:
            return NEVER
        if is_last:
            return FREE
        self.targets.append(weight)
        return len(self.targets) - 1

    def amounts_of(self, found):
        """How much of what is done where, as a dealer takes it, from the amounts of all entries."""
        return self.walks.amounts_of(self.places, found)


def errands_at(ground, path, number, question):
    """The errands that are due at a question of the other house, to which one path leads, surely, in all worlds.

    A list of triples (path, number, question), one for each. Where a question has one
    answer alone that can come, it is told at once: the errands are those behind it.
    """
    likely = [place for place, answer in enumerate(question) if not are_nought(answer[1])]
    if len(likely) == 1:
        return errands_of(ground, path + ((number, likely[0]),), question[likely[0]][2])
    if is_silent(question, ground.place_weights[0]):
        return []
    return [(path, number, question)]


def errands_of(ground, path, node):
    """The errands that are due at all questions of a node of the other house."""
    found = []
    for number, question in enumerate(node):
        found.extend(errands_at(ground, path, number, question))
    return found
