"""Vaults: what may be asked in rounds, so that never more is told than a budget tells."""

from tellsless.deciding import can_stand, decided
from tellsless.errors import NoBudget, NoItem, NoMenu, NoNumber, NoPath, NotRefused, TooLarge
from tellsless.houses import House, made_house, node_at
from tellsless.looks import is_look
from tellsless.ratios import ONE, is_number, multiplied_weights

MOST_LOOKS = 3
MOST_IN_TURN = 3
MOST_LET = 400


def is_menu(thing):
    """Whether a thing is a tuple of 1 to 3 looks of as many worlds."""
    if not isinstance(thing, tuple) or not 1 <= len(thing) <= MOST_LOOKS:
        return False
    if not all([isinstance(look, House) and is_look(look) for look in thing]):
        return False
    return all([look.worlds == thing[0].worlds for look in thing])


def answers_let(menu, rounds):
    """How many answers there are in so many rounds if all is let."""
    at_once = sum([len(look.tree[0]) for look in menu])
    many = 0
    for _ in range(rounds):
        many = (many + 1) * at_once
    return many


class Vault:
    """A vault with a menu of looks, of which it lets in each round what the budget can stand for.

    LETS are a dict with the pairs (path, item) that are let as keys; all else is refused.
    """

    def __init__(self, menu, budget, rounds):
        if not is_menu(menu):
            raise NoMenu()
        if not isinstance(budget, House) or budget.worlds != menu[0].worlds:
            raise NoBudget()
        if not is_number(rounds, 1, MOST_IN_TURN):
            raise NoNumber()
        if answers_let(menu, rounds) > MOST_LET:
            raise TooLarge()
        self.menu = menu
        self.budget = budget
        self.rounds = rounds
        self.granted = self.all_settled()
        self.kept = self.house_with(self.granted)

    def __eq__(self, other):
        return (
            isinstance(other, Vault)
            and self.menu == other.menu
            and self.budget == other.budget
            and self.rounds == other.rounds
        )

    def all_settled(self):
        """The lets, as they are settled question by question."""
        lets = {}
        level = [()]
        for _ in range(self.rounds):
            behind = []
            for path in level:
                for item in range(len(self.menu)):
                    many = self.settled(lets, path, item)
                    behind.extend([path + ((item, answer),) for answer in range(many)])
            level = behind
        return lets

    def settled(self, lets, path, item):
        """Settles a question, and puts it among the lets if it is let; tells how many answers it has then."""
        lets[(path, item)] = True
        if can_stand(self.budget, self.bundle(lets, path, item)):
            return len(self.menu[item].tree[0])
        del lets[(path, item)]
        return 1

    def bundle(self, lets, path, item):
        """The House of one question: the first that is let on the way to a question that is let, this one among them.

        If the budget can stand for this, it can for all: what does not hang together with
        it, the budget could stand for as before. For at each node but one question is
        asked, and behind refusals alone a holder knows as much as at the tree.
        """
        place = (path, item)
        for step in reversed(range(len(path))):
            if (path[:step], path[step][0]) in lets:
                place = (path[:step], path[step][0])
        worlds = self.budget.worlds
        return made_house(worlds, (self.question_with(lets, place[0], place[1], (ONE,) * worlds),))

    def question_with(self, lets, path, item, ahead):
        """The question with the number of an item at the node behind a path, behind the weights ahead."""
        if (path, item) not in lets:
            return (((0,), ahead, self.node_with(lets, path + ((item, 0),), ahead)),)
        answers = []
        for number, (word, weights, _) in enumerate(self.menu[item].tree[0]):
            after = multiplied_weights(weights, ahead)
            answers.append(((1,) + word, after, self.node_with(lets, path + ((item, number),), after)))
        return tuple(answers)

    def node_with(self, lets, path, ahead):
        """The node behind a path, behind the weights ahead."""
        if len(path) == self.rounds:
            return ()
        return tuple([self.question_with(lets, path, item, ahead) for item in range(len(self.menu))])

    def house_with(self, lets):
        """The House in which just this is let."""
        worlds = self.budget.worlds
        return made_house(worlds, self.node_with(lets, (), (ONE,) * worlds))

    def check_question(self, path, item):
        """Raises NoPath or NoItem unless a question with the number of an item stands behind a path of the house."""
        node = node_at(self.kept, path)
        if len(node) == 0:
            raise NoPath()
        if not is_number(item, 0, len(node) - 1):
            raise NoItem()

    def house(self):
        """The house of what is let and refused."""
        return self.kept

    def lets(self, path, item):
        """Whether a question is let."""
        self.check_question(path, item)
        return (path, item) in self.granted

    def wider(self, path, item):
        """The house in which a question that is refused is let, too, and all is refused behind its answers."""
        if self.lets(path, item):
            raise NotRefused()
        many = len(path)
        lets = {
            place: True
            for place in self.granted
            if place[0][:many] != path or len(place[0]) == many or place[0][many][0] != item
        }
        lets[(path, item)] = True
        return self.house_with(lets)

    def refusal(self, path, item):
        """A paper against the budget, for the wider house."""
        found = decided(self.budget, self.wider(path, item))
        return (found[1], found[2])
