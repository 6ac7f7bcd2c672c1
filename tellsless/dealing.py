"""Go-betweens out of amounts: dice that choose plans, so that at each turn all is done as often as it is due.

At a KEY, a triple (path, number, place), the question with the number behind the path of
the other house is due, and the holder stands at a place of the ground. A DOING is here a
pair ("tell", answer) or ("ask", question). Plans are dealt one after another: each does
something of which an amount is left, everywhere, and gets as its share the least that is
left of what it does. Amounts are integers, so many parts of a WHOLE; where they would not
be, the parts are made finer.
"""

from math import gcd, lcm

from tellsless.ratios import ONE, are_nought, common_bottom, reduced
from tellsless.silence import share_of


def idle_wait(node):
    """A wait at a node of who tells the first answer to whatever is asked."""
    return tuple([("tell", 0, idle_wait(question[0][2])) for question in node])


def told_shares(question, ahead):
    """The shares with which dice tell the answers of a question that tells nothing: a dict of doings."""
    return {
        ("tell", number): share_of(answer[1], ahead)
        for number, answer in enumerate(question)
        if not are_nought(answer[1])
    }


class Dealer:
    """Deals plans from a house to another one until nothing of the amounts is left."""

    def __init__(self, house, other, ground):
        self.first = house
        self.second = other
        self.ground = ground
        self.whole = 1
        self.rest = 1
        self.left = {}
        self.used = []

    def put(self, amounts, whole):
        """Takes in amounts for some keys, parts of another whole."""
        self.make_finer(lcm(self.whole, whole) // self.whole)
        times = self.whole // whole
        for key, doings in amounts.items():
            self.left[key] = {doing: amount * times for doing, amount in doings.items()}

    def make_finer(self, times):
        """Makes of each part so many."""
        if times > 1:
            self.whole *= times
            self.rest *= times
            self.left = {
                key: {doing: amount * times for doing, amount in doings.items()}
                for key, doings in self.left.items()
            }

    def deal(self):
        """A go-between that does everything as often as is due."""
        dealt = []
        while self.rest > 0:
            self.used = []
            plan = self.wait((), self.second.tree, (ONE,) * self.second.worlds, (0, self.first.tree))
            share = min([self.rest] + [self.left[key][doing] for key, doing in self.used])
            self.take(share)
            dealt.append((reduced(share, self.whole), plan))
        return tuple(dealt)

    def take(self, share):
        """Takes a share from all that a plan does."""
        self.rest -= share
        for key, doing in self.used:
            self.left[key][doing] -= share
            if self.left[key][doing] == 0:
                del self.left[key][doing]

    def wait(self, path, node, ahead, stand):
        """The wait at the node behind a path of the other house, behind the weights ahead.

        The holder stands at a pair of a place and its node. What was done last leads there.
        """
        last = len(self.used)
        return tuple([
            self.move((path, number, stand[0]), question, ahead, stand[1], last)
            for number, question in enumerate(node)
        ])

    def amount_ahead(self, last):
        """How much of what was done as the last of so many doings is left: so much leads to what is behind."""
        if last == 0:
            return self.rest
        key, doing = self.used[last - 1]
        return self.left[key][doing]

    def throw(self, key, question, ahead, last):
        """Puts down what dice tell at a key for which no errand cares, and which no plan so far has come to."""
        shares = told_shares(question, ahead)
        amount = self.amount_ahead(last)
        whole = common_bottom(list(shares.values()))
        self.make_finer(whole // gcd(whole, amount))
        amount = self.amount_ahead(last)
        self.left[key] = {doing: share[0] * amount // share[1] for doing, share in shares.items()}

    def move(self, key, question, ahead, node, last):
        """The move at a key, the holder standing at a node."""
        if key not in self.left:
            self.throw(key, question, ahead, last)
        doing = self.first_left(key)
        self.used.append((key, doing))
        path, asked, place = key
        word, number = doing
        if word == "tell":
            _, weights, behind = question[number]
            return ("tell", number, self.wait(path + ((asked, number),), behind, weights, (place, node)))
        return ("ask", number, self.hearing(key, question, ahead, (number, node[number])))

    def first_left(self, key):
        """Something that is still due at a key."""
        return list(self.left[key])[0]

    def hearing(self, key, question, ahead, asking):
        """The moves behind the answers of what is asked at a key: a question of the house, with its number."""
        path, asked, place = key
        behind = self.ground.places_behind(place, asking[0])
        last = len(self.used)
        moves = []
        for number, answer in enumerate(asking[1]):
            if number in behind:
                moves.append(self.move((path, asked, behind[number]), question, ahead, answer[2], last))
            else:
                moves.append(("tell", 0, idle_wait(question[0][2])))
        return tuple(moves)
