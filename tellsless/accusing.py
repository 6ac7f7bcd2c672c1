"""Tests in which nobody who holds a house is paid what the other one is, made of rates at which an errand fails.

The referee draws each world by the same chance, asks what leads to the errand, and then
by equal chances what belongs to it. The rates are paid; but where an answer is told in
a world in which it never comes, so much is taken that it is never worth it.
"""

from tellsless.ratios import NOUGHT, ONE, added, divided, is_less, less, multiplied, total
from tellsless.turns import FREE, NEVER


def nought_rows(question, worlds):
    """The rows of a test for a question for which nothing is paid."""
    return tuple([((NOUGHT,) * worlds, nought_table(answer[2], worlds)) for answer in question])


def nought_table(node, worlds):
    """The table of a test at a node, at and behind which nothing is asked."""
    return tuple([(NOUGHT, nought_rows(question, worlds)) for question in node])


def least_weight(ground):
    """The least weight above NOUGHT with which one stands anywhere on a ground."""
    least = ONE
    for weights in ground.place_weights:
        for weight in weights:
            if weight != NOUGHT and is_less(weight, least):
                least = weight
    return least


def fine_of(errand, rates):
    """What is taken for an answer that never comes: more than any plan could gain by telling it.

    Above what the targets gain no plan gains more than all rates above NOUGHT, and one
    that tells such an answer does so with the least weight at least.
    """
    most = total([rate for rate in rates if rate[0] > 0])
    gain = total([multiplied(rate, target) for rate, target in zip(rates, errand.targets)])
    return added(divided(added(most, less(gain)), least_weight(errand.ground)), ONE)


class Accuser:
    """Makes a test out of the rates at which an errand fails, in a number of worlds."""

    def __init__(self, errand, rates, worlds):
        self.errand = errand
        self.rates = rates
        self.worlds = worlds
        self.fine = fine_of(errand, rates)
        # The questions that are asked; for each of their answers that can come what it needs, world by world.
        self.needs = {}
        begin = errand.places[0][0]
        for step in range(len(begin)):
            number, likely = begin[step]
            self.needs[(begin[:step], number)] = {likely: [FREE] * worlds}
        for place, answers in zip(errand.places, errand.answers):
            self.needs[place] = {number: needs for number, needs, _ in answers}

    def table(self, path, node, way):
        """The table of the test at the node behind a path; way is the product of the chances of the questions on it."""
        asked = [number for number in range(len(node)) if (path, number) in self.needs]
        rows = []
        for number, question in enumerate(node):
            if number in asked:
                chance = (1, len(asked))
                rows.append((chance, self.asked_rows(path, number, question, multiplied(way, chance))))
            else:
                rows.append((NOUGHT, nought_rows(question, self.worlds)))
        return tuple(rows)

    def asked_rows(self, path, number, question, way):
        """The rows of the test for a question that is asked."""
        needs = self.needs[(path, number)]
        found = []
        for place, answer in enumerate(question):
            pays = self.pays(needs.get(place, [NEVER] * self.worlds), way)
            found.append((pays, self.table(path + ((number, place),), answer[2], way)))
        return tuple(found)

    def pays(self, needs, way):
        """What is paid for an answer, by what it needs: the referee seldom comes there, and so pays the more."""
        often = divided(way, (self.worlds, 1))
        return tuple([divided(self.pay(need), often) for need in needs])

    def pay(self, need):
        """What would be paid if the referee always came there, in the world."""
        if need == NEVER:
            return less(self.fine)
        if need == FREE:
            return NOUGHT
        return self.rates[need]


def accusing(other, errand, rates):
    """A test shaped like the other house in which who fails an errand is paid less than that house is."""
    accuser = Accuser(errand, rates, other.worlds)
    prior = ((1, other.worlds),) * other.worlds
    return (prior, accuser.table((), other.tree, ONE))
