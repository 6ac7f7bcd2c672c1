"""Bonds: one question of another house, and those behind its answers, for two holders who have to answer alike.

Each holder has turns of their own. An answer that is not the last one of its question
has a row for each world: the first holder gains there the weight that they tell, and the
second one loses it, so that both tell the same if all is NOUGHT in the end. Of the
last answers that is so then, too. Behind these rows there is one of what the first
holder is paid. Questions for which and behind which nothing is paid are left out.
"""

from tellsless.ratios import NOUGHT, ONE, are_nought, less, multiplied, total
from tellsless.turns import FREE, Turns


def paid_at_all(dues, path, number, question):
    """Whether anything is paid for a question behind a path, or behind it."""
    if not all([are_nought(row) for row in dues[(path, number)]]):
        return True
    for place, answer in enumerate(question):
        for inner, behind in enumerate(answer[2]):
            if paid_at_all(dues, path + ((number, place),), inner, behind):
                return True
    return False


class Bond:
    """All turns of both holders, on two grounds, for a question.

    The dues, those of the test, are a dict: under the pair of a path of the other house and of a question
    there stands for each answer what is paid, world by world, for the weight that is told.
    """

    def __init__(self, grounds, dues, path, number, question):
        self.dues = dues
        self.worlds = len(question[0][1])
        # For each question: its path and number; and triples of an answer's number, its needs, the questions behind.
        self.places = []
        self.answers = []
        self.targets = []
        self.take(path, number, question)
        self.units = [ONE] * len(self.targets) + [self.most_pay()]
        self.first = Turns(grounds[0], self.answers)
        self.second = Turns(grounds[1], self.answers)
        self.doings = self.first_doings() + self.second_doings()
        begins = [self.first.begin, self.second.begin + len(self.first.doings)]
        self.doings.append([("both", 0, begins, [])])
        self.begin = len(self.doings) - 1

    def take(self, path, number, question):
        """Takes in a question at the node behind a path, and those behind it; tells what number it has here."""
        taken = len(self.places)
        self.places.append((path, number))
        self.answers.append([])
        for place, answer in enumerate(question):
            needs = self.new_rows(place == len(question) - 1)
            behind = self.take_behind(path + ((number, place),), answer[2])
            self.answers[taken].append((place, needs, behind))
        return taken

    def take_behind(self, path, node):
        """Takes in the questions at a node for which, or behind which, something is paid; their numbers here."""
        return [
            self.take(path, number, question)
            for number, question in enumerate(node)
            if paid_at_all(self.dues, path, number, question)
        ]

    def new_rows(self, is_last):
        """The rows of an answer, which it gets now, one for each world."""
        if is_last:
            return [FREE] * self.worlds
        rows = len(self.targets)
        self.targets.extend([NOUGHT] * self.worlds)
        return list(range(rows, rows + self.worlds))

    def most_pay(self):
        """More than is ever paid, or lost, for an answer."""
        found = []
        for place in self.places:
            for row in self.dues[place]:
                found.extend([(abs(top), bottom) for top, bottom in row])
        return total(found)

    def first_doings(self):
        """The doings of the first holder, who is paid."""
        return [
            [self.paid_doing(turn, doing) for doing in doings]
            for turn, doings in zip(self.first.turns, self.first.doings)
        ]

    def paid_doing(self, turn, doing):
        """A doing of the first holder at a turn, with what is paid for it."""
        word, number, behind, gains = doing
        if word == "ask":
            return doing
        question, place = turn
        weights = self.first.ground.place_weights[place]
        pays = self.dues[self.places[question]][number]
        pay = total([multiplied(weight, part) for weight, part in zip(weights, pays)])
        return (word, number, behind, gains + [(len(self.targets), pay)])

    def second_doings(self):
        """The doings of the second holder, whose turns are numbered behind those of the first one."""
        ahead = len(self.first.doings)
        return [
            [
                (word, number, [turn + ahead for turn in behind], [(row, less(gain)) for row, gain in gains])
                for word, number, behind, gains in doings
            ]
            for doings in self.second.doings
        ]

    def idle_doings(self):
        """For each turn the number of a doing by which nothing but last answers is ever told: so both tell the same."""
        return [
            max([number for number, doing in enumerate(doings) if doing[0] != "ask"])
            for doings in self.doings
        ]

    def no_rates(self):
        """Rates at which nothing counts but what is paid."""
        return [0] * len(self.targets) + [1]

    def amounts_of(self, holder, found):
        """How much a holder, 0 or 1, does where, as a dealer takes it, from the amounts of all entries."""
        ahead = len(self.first.doings)
        if holder == 0:
            own = {entry: amount for entry, amount in found.items() if entry[0] < ahead}
            return self.first.amounts_of(self.places, own)
        own = {(turn - ahead, doing): amount for (turn, doing), amount in found.items() if ahead <= turn < self.begin}
        return self.second.amounts_of(self.places, own)
