"""Mixtures that come near to the targets of an errand, step by step, until it shows that none comes to them.

In each step the plan is sought that goes farthest in the direction of the targets, and as
much of it is mixed in as comes nearest to them. If not even that plan goes as far as
the targets, the direction is one of rates at which nobody gains so much. All numbers are
rounded, but the rates that are told are tried exactly.
"""

from tellsless.ratios import is_less
from tellsless.weighing import gain_of_targets, weighed

FINE = 60


def product_sum(row, other):
    """The sum of the products of the numbers at the same places of two lists."""
    return sum([first * second for first, second in zip(row, other)])


class Nearing:
    """A mixture of plans, of which only is kept how far it meets each target: a whole number of small parts."""

    def __init__(self, errand):
        self.errand = errand
        self.goal = [(top << FINE) // bottom for top, bottom in errand.targets]
        self.stand = self.met_by(weighed(errand, self.goal, {})[1])

    def met_by(self, bests):
        """How far the plan that does what is best everywhere meets each target."""
        met = [0] * len(self.goal)
        waiting = [self.errand.begin]
        while len(waiting) > 0:
            turn = waiting.pop()
            behind, gains = self.errand.whole_doings[turn][bests[turn]]
            for row, gain in gains:
                met[row] += (gain << FINE) // self.errand.whole
            waiting.extend(behind)
        return met

    def step(self):
        """Goes a step nearer; tells rates at which no plan gains as much as the targets do, None if none show."""
        rates = [goal - stand for goal, stand in zip(self.goal, self.stand)]
        worths, bests, _ = weighed(self.errand, rates, {})
        if is_less((worths[self.errand.begin], self.errand.whole), gain_of_targets(self.errand, rates)):
            return rates
        way = [met - stand for met, stand in zip(self.met_by(bests), self.stand)]
        far = product_sum(way, way)
        if far > 0:
            part = min(1 << FINE, max(0, (product_sum(rates, way) << FINE) // far))
            self.stand = [stand + (part * more >> FINE) for stand, more in zip(self.stand, way)]
        return None

    def steps(self, many):
        """Goes so many steps, unless rates show before; tells them."""
        rates = None
        for _ in range(many):
            if rates is None:
                rates = self.step()
        return rates
