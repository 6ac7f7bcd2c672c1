"""Who is bound by two houses: the most that can be paid to what can be made of each of them."""

from tellsless.agreeing import Agreement, told_question
from tellsless.bonds import paid_at_all
from tellsless.dealing import Dealer
from tellsless.grounds import Ground
from tellsless.houses import check_alike, made_house
from tellsless.prices import all_asked, prices
from tellsless.ratios import NOUGHT, ONE, added, divided, less, multiplied
from tellsless.referees import check_test, paid


def dues_in(other, test):
    """For each question of the other house, by its path and number: what is paid for each answer, world by world."""
    return {
        (path, number): [pays for pays, _ in rows]
        for path, number, rows in all_asked(other, test)
    }


class Bounds:
    """What two holders do, each with a house of their own, who have to answer alike in the place of another house.

    There is an agreement for each question at its tree for which something is paid, under its number.
    """

    def __init__(self, first, second, other, test):
        self.holds = (first, second)
        self.other = other
        self.dues = dues_in(other, test)
        self.grounds = (Ground(first), Ground(second))
        self.agreements = {}
        for number, question in enumerate(other.tree):
            if paid_at_all(self.dues, (), number, question):
                self.agreements[number] = Agreement(self.grounds, self.dues, number, question)

    def question(self, number, question):
        """A question at the tree with the weights that both tell; where nothing is paid the first answers are told."""
        if number in self.agreements:
            return self.agreements[number].agreed
        return told_question({}, (), number, question, (ONE,) * self.other.worlds)

    def house(self):
        """The House that both make."""
        tree = tuple([self.question(number, question) for number, question in enumerate(self.other.tree)])
        return made_house(self.other.worlds, tree)

    def between(self, holder, house):
        """The go-between of the holder with a number, 0 or 1, that makes the house."""
        dealer = Dealer(self.holds[holder], house, self.grounds[holder])
        for agreement in self.agreements.values():
            for amounts, whole in agreement.amounts[holder]:
                dealer.put(amounts, whole)
        return dealer.deal()

    def taken_at(self, path, number):
        """What is taken from the second holder for each answer of a question, world by world."""
        root = number
        if len(path) > 0:
            root = path[0][0]
        nought = [(NOUGHT,) * self.other.worlds] * len(self.dues[(path, number)])
        if root not in self.agreements:
            return nought
        return self.agreements[root].taken.get((path, number), nought)

    def pays_for(self, holder, path, number):
        """What is paid to a holder for each answer of a question, world by world."""
        taken = self.taken_at(path, number)
        if holder == 1:
            return [tuple([less(part) for part in row]) for row in taken]
        return [
            tuple([added(pay, part) for pay, part in zip(pays, row)])
            for pays, row in zip(self.dues[(path, number)], taken)
        ]

    def table(self, holder, path, node, way):
        """The table of the test of a holder at a node; way is the product of the chances ahead."""
        rows = []
        for number, question in enumerate(node):
            chance = (1, len(node))
            after = multiplied(way, chance)
            pays = self.pays_for(holder, path, number)
            rows.append((chance, tuple([
                (
                    tuple([divided(pay, after) for pay in pays[place]]),
                    self.table(holder, path + ((number, place),), answer[2], after),
                )
                for place, answer in enumerate(question)
            ])))
        return tuple(rows)

    def paper(self, holder):
        """The test of a holder, who is asked everything by equal chances, and its prices."""
        share = (1, self.other.worlds)
        test = ((share,) * self.other.worlds, self.table(holder, (), self.other.tree, share))
        return (test, prices(self.holds[holder], self.other, test))


def most_paid(first, second, other, test):
    """The most that can be paid in a test of the other house to what can be made of two houses; and what shows it."""
    check_alike(first, second)
    check_alike(first, other)
    check_test(other, test)
    bounds = Bounds(first, second, other, test)
    house = bounds.house()
    pay = paid(house, test)
    return (pay, house, bounds.between(0, house), bounds.between(1, house), bounds.paper(0), bounds.paper(1))
