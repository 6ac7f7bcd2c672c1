"""Agreements: how two holders answer one question of another house, and those behind it, alike, and are paid most.

Often one of both alone binds: the other one can do whatever is best for them. That is tried
first; otherwise the bond of both is settled.
"""

from tellsless.binding import bound
from tellsless.bonds import Bond
from tellsless.deciding import outcome
from tellsless.errands import Errand, errands_at
from tellsless.figures import whole_figures
from tellsless.keyed import Keyed
from tellsless.ratios import NOUGHT, ONE, is_less, less, reduced, scaled_weights, total_weights
from tellsless.turns import FREE
from tellsless.weighing import weighed


def heaps_of(ground, amounts, whole):
    """The weights that are told, to be added: under a path and a question a dict of lists for the answers."""
    heaps = {}
    for (path, number, place), doings in amounts.items():
        heap = heaps.setdefault((path, number), {})
        for (word, which), amount in doings.items():
            if word == "tell":
                weights = scaled_weights(reduced(amount, whole), ground.place_weights[place])
                heap.setdefault(which, []).append(weights)
    return heaps


def told_question(heaps, path, number, question, ahead):
    """A question with the weights that are told; of one for which there is no heap the first answer is."""
    heap = heaps.get((path, number), {0: [ahead]})
    answers = []
    for place, (word, _, node) in enumerate(question):
        weights = total_weights(heap.get(place, []), len(ahead))
        after = path + ((number, place),)
        behind = [told_question(heaps, after, inner, asked, weights) for inner, asked in enumerate(node)]
        answers.append((word, weights, tuple(behind)))
    return tuple(answers)


def rates_at(needs, rates):
    """The rates, world by world, for an answer with some needs."""
    return tuple([rates[row] if row != FREE else NOUGHT for row in needs])


class Best:
    """What is best for the first holder of a bond alone: what is paid for it, and how much is done where."""

    def __init__(self, bond):
        figures = whole_figures(bond)
        bests, worth, _ = weighed(figures, bond.no_rates(), {})
        keyed = Keyed(figures, {})
        keyed.visit([bond.first.begin], bests)
        top, bottom = bond.units[-1]
        self.paid_most = reduced(worth * top, figures.units[-1] * bottom)
        self.amounts = bond.amounts_of(0, {keyed.key_at(turn): 1 for turn in keyed.chosen})


class Agreement:
    """How two holders answer one question at the tree of another house.

    Amounts are, for each holder, pairs as a dealer takes them: how much is done where, and
    the whole of which it is a part. The question has the weights that both tell. Taken
    is, for a path and a question, what is taken for each answer from what the second holder is
    paid, and given to the first one, world by world.
    """

    def __init__(self, grounds, dues, number, question):
        self.grounds = grounds
        self.dues = dues
        self.number = number
        self.asked = question
        self.amounts = ([], [])
        self.agreed = question
        self.taken = {}
        self.settle()

    def bond(self, holder):
        """The bond in which a holder comes first, and is paid."""
        return Bond((self.grounds[holder], self.grounds[1 - holder]), self.dues, (), self.number, self.asked)

    def settle(self):
        """Lets one holder alone bind if that will do; otherwise both."""
        bonds = [self.bond(holder) for holder in (0, 1)]
        first, second = [Best(bond) for bond in bonds]
        if not is_less(second.paid_most, first.paid_most) and self.lead(0, first.amounts):
            return
        if not is_less(first.paid_most, second.paid_most) and self.lead(1, second.amounts):
            for place in bonds[1].places:
                self.taken[place] = [tuple([less(pay) for pay in pays]) for pays in self.dues[place]]
            return
        self.bind(bonds[0])

    def lead(self, holder, amounts):
        """Tells whether the other holder can tell all that one tells who does some amounts of a whole of 1."""
        told = self.told_by(holder, amounts, 1)
        done = []
        for path, number, question in errands_at(self.grounds[1 - holder], (), self.number, told):
            errand = Errand(self.grounds[1 - holder], path, number, question)
            found = outcome(errand)[0]
            if found is None:
                return False
            done.append((errand.amounts_of(found[0]), found[1]))
        self.agreed = told
        self.amounts[holder].append((amounts, 1))
        self.amounts[1 - holder].extend(done)
        return True

    def told_by(self, holder, amounts, whole):
        """The question with the weights that a holder tells by some amounts."""
        heaps = heaps_of(self.grounds[holder], amounts, whole)
        return told_question(heaps, (), self.number, self.asked, (ONE,) * len(self.asked[0][1]))

    def bind(self, bond):
        """Settles the bond of both."""
        found, whole, rates = bound(bond)
        for holder in (0, 1):
            self.amounts[holder].append((bond.amounts_of(holder, found), whole))
        self.agreed = self.told_by(0, self.amounts[0][0][0], whole)
        for place, answers in zip(bond.places, bond.answers):
            self.taken[place] = [rates_at(needs, rates) for _, needs, _ in answers]
