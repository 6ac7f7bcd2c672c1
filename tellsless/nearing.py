"""Mixtures that come near to the targets of an errand, step by step, until it shows that none comes to them.

In each step the plan is sought that goes farthest in the direction of the targets, and as
much of it is mixed in as comes nearest to them. If not even that plan goes as far as
the targets, the direction is one of rates at which nobody gains so much. All numbers are
rounded, but that the rates show it is judged for sure.
"""

from tellsless.figures import near_figures
from tellsless.weighing import are_beyond, weighed, worth_of_targets

FINE = 60


def product_sum(row, other):
    """The sum of the products of the numbers at the same places of two lists."""
    return sum([first * second for first, second in zip(row, other)])


class Nearing:
    """A mixture of plans, of which only is kept how much of each target it meets, in parts."""

    def __init__(self, errand):
        self.figures = near_figures(errand, FINE)
        self.stand = self.met_by(weighed(self.figures, self.figures.targets, {})[0])

    def met_by(self, bests):
        """How much of each target the plan that does what is best everywhere meets."""
        met = [0] * len(self.figures.targets)
        waiting = [self.figures.begin]
        while len(waiting) > 0:
            turn = waiting.pop()
            behind, gains = self.figures.doings[turn][bests[turn]]
            for row, gain in gains:
                met[row] += gain
            waiting.extend(behind)
        return met

    def step(self):
        """Goes a step nearer; tells rates at which no plan gains as much as the targets do, None if none show."""
        rates = [target - stand for target, stand in zip(self.figures.targets, self.stand)]
        bests, worth, _ = weighed(self.figures, rates, {})
        if worth < worth_of_targets(self.figures, rates) and are_beyond(self.figures, rates):
            return rates
        met = self.met_by(bests)
        way = [more - stand for more, stand in zip(met, self.stand)]
        far = product_sum(way, way)
        if far > 0:
            part = min(1 << FINE, max(0, (product_sum(rates, way) << FINE) // far))
            self.stand = [stand + (part * more >> FINE) for stand, more in zip(self.stand, way)]
        return None

    def steps(self, many):
        """Goes so many steps, unless rates show before; tells them."""
        rates = None
        for _ in range(many):
            if rates is None:
                rates = self.step()
        return rates
