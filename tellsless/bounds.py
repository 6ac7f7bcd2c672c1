"""Who is bound by two houses: the most that can be paid to what can be made of each of them."""

from tellsless.binding import bound
from tellsless.bonds import Bond, paid_at_all
from tellsless.dealing import Dealer
from tellsless.grounds import Ground
from tellsless.houses import check_alike, made_house
from tellsless.prices import all_asked, prices
from tellsless.ratios import NOUGHT, ONE, added, divided, less, multiplied, reduced, scaled_weights, total_weights
from tellsless.referees import check_test, paid
from tellsless.turns import FREE


def dues_in(other, test):
    """For each question of the other house, by its path and number: what is paid for each answer, world by world."""
    return {
        (path, number): [pays for pays, _ in rows]
        for path, number, rows in all_asked(other, test)
    }


def rates_at(needs, rates):
    """The rates, world by world, for an answer with some needs."""
    return tuple([rates[row] if row != FREE else NOUGHT for row in needs])


class Bounds:
    """What two holders do, each with a house of their own, who have to answer alike in the place of another house.

    Done are triples of a bond, the amounts of what is done, and the whole of which they are
    parts. Heaps are a dict: under the pair of a path of the other house and of a question
    of a bond it has, for each answer, a list of weights that are told, to be added. Taken is
    a dict with what is taken, for each answer of such a question and world by world, from
    what the second holder is paid, and given to the first one.
    """

    def __init__(self, first, second, other, test):
        self.holds = (first, second)
        self.other = other
        self.dues = dues_in(other, test)
        self.grounds = (Ground(first), Ground(second))
        self.heaps = {}
        self.taken = {}
        self.done = []
        for number, question in enumerate(other.tree):
            if paid_at_all(self.dues, (), number, question):
                self.bind(Bond(self.grounds, self.dues, (), number, question))

    def bind(self, bond):
        """Settles a bond, and keeps what is told and taken in it."""
        found, whole, rates = bound(bond)
        self.done.append((bond, found, whole))
        for place, answers in zip(bond.places, bond.answers):
            self.taken[place] = [rates_at(needs, rates) for _, needs, _ in answers]
            self.heaps[place] = [[] for _ in answers]
        for (path, number, place), doings in bond.amounts_of(0, found).items():
            weights = self.grounds[0].place_weights[place]
            for (word, which), amount in doings.items():
                if word == "tell":
                    self.heaps[(path, number)][which].append(scaled_weights(reduced(amount, whole), weights))

    def node(self, path, node, ahead):
        """The node behind a path, with the weights that are told; ahead are those of the answer ahead of it."""
        return tuple([
            self.question(path, number, question, ahead)
            for number, question in enumerate(node)
        ])

    def question(self, path, number, question, ahead):
        """A question with the weights that are told; of one for which nothing is paid the first answer is."""
        told = self.heaps.get((path, number), [[ahead]] + [[]] * (len(question) - 1))
        sums = [total_weights(rows, self.other.worlds) for rows in told]
        return tuple([
            (answer[0], weights, self.node(path + ((number, place),), answer[2], weights))
            for place, (answer, weights) in enumerate(zip(question, sums))
        ])

    def house(self):
        """The House that both make."""
        worlds = self.other.worlds
        return made_house(worlds, self.node((), self.other.tree, (ONE,) * worlds))

    def between(self, holder, house):
        """The go-between of the holder with a number, 0 or 1, that makes the house."""
        dealer = Dealer(self.holds[holder], house, self.grounds[holder])
        for bond, found, whole in self.done:
            dealer.put(bond.amounts_of(holder, found), whole)
        return dealer.deal()

    def pays_for(self, holder, place):
        """What is paid to a holder for each answer of a question, world by world."""
        taken = self.taken.get(place, [(NOUGHT,) * self.other.worlds] * len(self.dues[place]))
        if holder == 1:
            return [tuple([less(part) for part in row]) for row in taken]
        return [
            tuple([added(pay, part) for pay, part in zip(pays, row)])
            for pays, row in zip(self.dues[place], taken)
        ]

    def table(self, holder, path, node, way):
        """The table of the test of a holder at a node; way is the product of the chances ahead."""
        rows = []
        for number, question in enumerate(node):
            chance = (1, len(node))
            after = multiplied(way, chance)
            pays = self.pays_for(holder, (path, number))
            rows.append((chance, tuple([
                (
                    tuple([divided(pay, after) for pay in pays[place]]),
                    self.table(holder, path + ((number, place),), answer[2], after),
                )
                for place, answer in enumerate(question)
            ])))
        return tuple(rows)

    def paper(self, holder):
        """The test of a holder, who is asked everything by equal chances, and its prices."""
        share = (1, self.other.worlds)
        test = ((share,) * self.other.worlds, self.table(holder, (), self.other.tree, share))
        return (test, prices(self.holds[holder], self.other, test))


def most_paid(first, second, other, test):
    """The most that can be paid in a test of the other house to what can be made of two houses; and what shows it."""
    check_alike(first, second)
    check_alike(first, other)
    check_test(other, test)
    bounds = Bounds(first, second, other, test)
    house = bounds.house()
    pay = paid(house, test)
    return (pay, house, bounds.between(0, house), bounds.between(1, house), bounds.paper(0), bounds.paper(1))
