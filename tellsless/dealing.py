"""Go-betweens out of amounts: dice that choose plans, so that at each turn all is done as often as it is due.

At a KEY, a triple (path, number, place), the question with the number behind the path of
the other house is due, and the holder stands at a place of the ground. A DOING is here a
pair ("tell", answer) or ("ask", question). Plans are dealt one after another: each does
something of which an amount is left, everywhere, and gets as its share the least that is
left of what it does.
"""

from tellsless.ratios import NOUGHT, ONE, are_nought, is_less, lessened, multiplied
from tellsless.silence import share_of


def idle_wait(node):
    """A wait at a node of who tells the first answer to whatever is asked."""
    return tuple([("tell", 0, idle_wait(question[0][2])) for question in node])


def told_amounts(question, ahead, amount):
    """The amounts with which dice tell the answers of a question that tells nothing, an amount in all."""
    return {
        ("tell", number): multiplied(share_of(answer[1], ahead), amount)
        for number, answer in enumerate(question)
        if not are_nought(answer[1])
    }


class Dealer:
    """Deals plans from a house to another one until nothing of the amounts is left."""

    def __init__(self, house, other, ground, amounts):
        self.first = house
        self.second = other
        self.ground = ground
        self.left = {key: {doing: doings[doing] for doing in doings} for key, doings in amounts.items()}
        self.used = []

    def deal(self):
        """A go-between that does everything as often as is due."""
        dealt = []
        left = ONE
        while left != NOUGHT:
            self.used = []
            plan = self.wait((), self.second.tree, (ONE,) * self.second.worlds, (0, self.first.tree), left)
            share = self.least_used(left)
            self.take(share)
            left = lessened(left, ONE, share)
            dealt.append((share, plan))
        return tuple(dealt)

    def least_used(self, left):
        """The least of what is left of all that a plan does, and of a fraction."""
        least = left
        for key, doing in self.used:
            if is_less(self.left[key][doing], least):
                least = self.left[key][doing]
        return least

    def take(self, share):
        """Takes a share from all that a plan does."""
        for key, doing in self.used:
            left = lessened(self.left[key][doing], ONE, share)
            if left == NOUGHT:
                del self.left[key][doing]
            else:
                self.left[key][doing] = left

    def wait(self, path, node, ahead, stand, amount):
        """The wait at the node behind a path of the other house, behind the weights ahead.

        The holder stands at a pair of a place and its node; an amount leads there.
        """
        return tuple([
            self.move((path, number, stand[0]), question, ahead, stand[1], amount)
            for number, question in enumerate(node)
        ])

    def move(self, key, question, ahead, node, amount):
        """The move at a key, the holder standing at a node."""
        if key not in self.left:
            # No errand cares for it: dice do, of which no plan so far has thrown any.
            self.left[key] = told_amounts(question, ahead, amount)
        doing = self.first_left(key)
        left = self.left[key][doing]
        self.used.append((key, doing))
        path, asked, place = key
        word, number = doing
        if word == "tell":
            _, weights, behind = question[number]
            return ("tell", number, self.wait(path + ((asked, number),), behind, weights, (place, node), left))
        return ("ask", number, self.hearing(key, question, ahead, (number, node[number]), left))

    def first_left(self, key):
        """Something that is still due at a key."""
        return list(self.left[key])[0]

    def hearing(self, key, question, ahead, asking, amount):
        """The moves behind the answers of what is asked at a key: a question of the house, with its number."""
        path, asked, place = key
        behind = self.ground.places_behind(place, asking[0])
        moves = []
        for number, answer in enumerate(asking[1]):
            if number in behind:
                moves.append(self.move((path, asked, behind[number]), question, ahead, answer[2], amount))
            else:
                moves.append(("tell", 0, idle_wait(question[0][2])))
        return tuple(moves)
