"""Errands: one question of the other house, and those behind its answers, for who stands at the tree of a house.

At a TURN a question of the other house is due, and the holder stands at a place of
the ground. A DOING at a turn is a tuple (word, number, turns, gains): "tell" and the
number of an answer, or "ask" and the number of a question of the house; the turns
to all of which it leads, each with the next question or answer; and by how much it
helps to meet targets. TARGETS are the weights that have to be met: row by row one
for an answer and a world. Left out are what is met if all others are (in each world
the last answer that comes), questions that tell nothing (dice answer them), doings
by which an answer would come in a world in which it never does, and those that lead
where nothing else is left.
"""

from tellsless.ratios import NOUGHT, are_nought
from tellsless.silence import is_silent

FREE = -1
NEVER = -2


def last_likely(question, world):
    """The number of the last answer of a question that comes in a world; -1 if none does."""
    last = -1
    for number, answer in enumerate(question):
        if answer[1][world] != NOUGHT:
            last = number
    return last


def may_tell(weights, needs):
    """Whether an answer may be told where some weights stand: it comes in all worlds in which one stands there."""
    return all([weight == NOUGHT or need != NEVER for weight, need in zip(weights, needs)])


def gains_of(weights, needs):
    """By how much telling an answer, where some weights stand, helps to meet targets: pairs (row, fraction)."""
    return [(need, weight) for weight, need in zip(weights, needs) if weight != NOUGHT and need >= 0]


class Errand:
    """All turns of an errand, numbered so that those behind a turn come ahead of it."""

    def __init__(self, ground, path, number, question):
        self.ground = ground
        # For each question: its path and number; triples of an answer's number, its needs, the questions behind;
        # and a dict of the weights of these answers.
        self.places = []
        self.answers = []
        self.told_weights = []
        self.targets = []
        self.take(path, number, question)
        self.numbers = {}
        self.turns = []
        self.doings = []
        self.begin = self.turn(0, 0)

    def take(self, path, number, question):
        """Takes in a question at the node behind a path, and those behind it; tells what number it has here."""
        taken = len(self.places)
        self.places.append((path, number))
        self.answers.append([])
        self.told_weights.append({})
        needs = self.needs_of(question)
        for place, answer in enumerate(question):
            if not are_nought(answer[1]):
                behind = self.take_behind(path + ((number, place),), answer)
                self.answers[taken].append((place, needs[place], behind))
                self.told_weights[taken][place] = answer[1]
        return taken

    def take_behind(self, path, answer):
        """Takes in the questions behind an answer that tell anything; their numbers here."""
        return [
            self.take(path, number, question)
            for number, question in enumerate(answer[2])
            if not is_silent(question, answer[1])
        ]

    def needs_of(self, question):
        """For each answer of a question, world by world: the row of its target, FREE, or NEVER if it may not come."""
        lasts = [last_likely(question, world) for world in range(len(question[0][1]))]
        return [
            [self.need(weight, last == number) for weight, last in zip(answer[1], lasts)]
            for number, answer in enumerate(question)
        ]

    def need(self, weight, is_last):
        """The row of a weight that has to be met, which gets one now; FREE or NEVER if it needs none."""
        if weight == NOUGHT:
            return NEVER
        if is_last:
            return FREE
        self.targets.append(weight)
        return len(self.targets) - 1

    def turn(self, question, place):
        """The number of a turn; None if nothing can be done there."""
        if (question, place) not in self.numbers:
            doings = self.tellings(question, place) + self.askings(question, place)
            self.numbers[(question, place)] = self.numbered(question, place, doings)
        return self.numbers[(question, place)]

    def numbered(self, question, place, doings):
        """The number that a turn gets, behind those to which its doings lead; None if there are no doings."""
        if len(doings) == 0:
            return None
        self.turns.append((question, place))
        self.doings.append(doings)
        return len(self.doings) - 1

    def tellings(self, question, place):
        """What can be told at a turn."""
        weights = self.ground.place_weights[place]
        found = []
        for number, needs, behind in self.answers[question]:
            if may_tell(weights, needs):
                turns = [self.turn(inner, place) for inner in behind]
                if None not in turns:
                    found.append(("tell", number, turns, gains_of(weights, needs)))
        return found

    def askings(self, question, place):
        """What can be asked at a turn; nothing if there is one answer alone: what is asked later helps as much."""
        if len(self.answers[question]) == 1:
            return []
        found = []
        for number, heard in self.ground.place_questions[place]:
            turns = [self.turn(question, inner) for _, inner in heard]
            if None not in turns:
                found.append(("ask", number, turns, []))
        return found


def errands_of(ground, path, node):
    """The errands that are due at a node of the other house, to which one path leads, surely, in all worlds.

    A list of triples (path, number, question), one for each. Where a question has one
    answer alone that can come, it is told at once: the errands are those behind it.
    """
    sure = ground.place_weights[0]
    found = []
    for number, question in enumerate(node):
        likely = [place for place, answer in enumerate(question) if not are_nought(answer[1])]
        if len(likely) == 1:
            behind = path + ((number, likely[0]),)
            found.extend(errands_of(ground, behind, question[likely[0]][2]))
        elif not is_silent(question, sure):
            found.append((path, number, question))
    return found
