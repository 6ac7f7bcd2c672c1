"""Mixtures of an errand: made until all targets are met, or until rates show that they cannot be.

The rates are looked for on two ways: those of the mixture may show it, and where much
lacks a mixture that just comes nearer and nearer is often the shorter way.
"""

from tellsless.figures import near_figures
from tellsless.likeness import passing_doings
from tellsless.mixing import Mixture
from tellsless.nearing import Nearing
from tellsless.weighing import are_beyond, slim_rates, weighed

STEPS_ALONE = 8
NEARING_STEPS = 16


def first_doings(errand, figures):
    """The doings with which a mixture of an errand begins: a plan that passes on what it can."""
    bests = weighed(figures, [1] * len(figures.targets), {})[0]
    for turn, doing in enumerate(passing_doings(errand)):
        if doing is not None:
            bests[turn] = doing
    return bests


class Refuting:
    """A mixture of an errand, with another one that comes nearer; against are rates that show that lacks must stay."""

    def __init__(self, errand, bits):
        self.errand = errand
        figures = near_figures(errand, bits)
        self.mixture = Mixture(figures, bits, first_doings(errand, figures), 0)
        self.nearing = None
        self.against = None

    def run(self, most):
        """Makes the lacks less until there are none, or until rates, kept as against, show that some must stay.

        It gives up after so many steps.
        """
        for step in range(most):
            if self.mixture.is_met():
                return
            entry = self.mixture.next_entry()
            if entry is None or step % STEPS_ALONE == 0:
                self.show(step)
            if entry is None or self.against is not None or not self.mixture.enter(entry):
                return

    def show(self, step):
        """Looks for rates that show that some lacks must stay; on the other way only behind the first step."""
        figures = self.mixture.figures
        rates = None
        if are_beyond(figures, self.mixture.rates):
            rates = self.mixture.rates
        elif step > 0:
            if self.nearing is None:
                self.nearing = Nearing(self.errand)
            rates = self.nearing.steps(NEARING_STEPS)
        if rates is not None:
            self.against = slim_rates(figures, rates)
