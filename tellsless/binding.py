"""Bonds settled: how both holders answer alike and are paid as much as can be, and the rates that show it.

A mixture of what both do is made better and better: that both answer alike counts more than
any pay. What it comes to is never trusted: the amounts of all that is done, and the
rates, are found exactly, and nobody may gain more at these rates than is paid.
"""

from tellsless.figures import near_figures, whole_figures
from tellsless.keyed import Keyed
from tellsless.mixing import Mixture
from tellsless.ratios import reduced
from tellsless.refining import Refining
from tellsless.settling import column_of, settled_amounts
from tellsless.weighing import weighed

FIRST_BITS = 256
MOST_STEPS = 40
# A lack counts more than what is paid by this part of the bits.
GREATER = 64
# By this part of the bits the targets are nearer to NOUGHT than to ONE.
NEARER = 8
STRIDE = 2654435769
SPREAD = 32


def nudged(many, bits):
    """Targets next to NOUGHT, all unlike: so it is seldom that in a step two things could leave just as well."""
    return [
        (place * STRIDE % (1 << SPREAD) + (1 << SPREAD)) << bits - bits // NEARER - SPREAD
        for place in range(many)
    ]


def mixed(bond, bits, most):
    """A mixture of what is done by both holders, as good as it becomes in so many steps."""
    figures = near_figures(bond, bits)
    figures.targets = nudged(len(bond.targets), bits)
    mixture = Mixture(figures, bits, bond.idle_doings(), 1 << bits - bits // GREATER)
    for _ in range(most):
        entry = mixture.next_entry()
        if entry is None or not mixture.enter(entry):
            return mixture
    return mixture


def turned(columns, many):
    """Columns with places and columns exchanged; so many places there are."""
    found = [{} for _ in range(many)]
    for number, column in enumerate(columns):
        for place, effect in column.items():
            if place < many:
                found[place][number] = effect
    return found


def rates_goal(mixture, figures, columns):
    """What each extra has to be worth at the rates: what it is paid less, and a lack what it costs."""
    pay_row = len(mixture.extras)
    found = []
    for extra, column in zip(mixture.extras, columns):
        if extra is None:
            found.append(figures.units[pay_row] << mixture.bits // GREATER)
        else:
            found.append(-column.get(pay_row, 0))
    return found


def settled_rates(mixture, figures):
    """The rates at which no extra gains or loses: a pair of tops, in parts of pay for a part, and of their bottom.

    None if they are not found.
    """
    keyed = Keyed(figures, mixture.keyed.chosen)
    many = len(mixture.extras)
    columns = [column_of(mixture, keyed, place) for place in range(many)]
    pay_unit = figures.units[many]
    rows = [[row[place] for row in mixture.rows] for place in range(many)]
    units = [reduced(pay_unit, unit) for unit in figures.units[:many]]
    goal = rates_goal(mixture, figures, columns)
    refining = Refining(turned(columns, many), units, goal, [pay_unit] * many, rows, mixture.bits)
    most = refining.most_known()
    wanted = 1
    while refining.known < most and not refining.is_lost():
        refining.grow()
        if refining.known >= wanted:
            wanted = 2 * refining.known
            exact = refining.exact()
            if exact is not None:
                return exact
    return None


def pay_of(figures, found):
    """What is paid for some amounts of entries, in parts."""
    pay_row = len(figures.targets)
    pay = 0
    for (turn, doing), amount in found.items():
        for row, gain in figures.doings[turn][doing][1]:
            if row == pay_row:
                pay += gain * amount
    return pay


def settled_bond(mixture, figures):
    """The amounts and the rates to which a mixture comes, if these show that no more can be paid; None otherwise."""
    amounts = settled_amounts(mixture, figures)
    if amounts is None:
        return None
    rates = settled_rates(mixture, figures)
    if rates is None:
        return None
    found, whole = amounts
    tops, bottom = rates
    best = weighed(figures, tops + [bottom], {})[1]
    if best * whole != pay_of(figures, found) * bottom:
        return None
    return (amounts, rates)


def fractions_of(bond, figures, rates):
    """Rates as fractions: what is paid for a weight of ONE."""
    tops, bottom = rates
    pay_row = len(tops)
    unit_top, unit_bottom = bond.units[pay_row]
    return [
        reduced(top * unit * unit_top, bottom * figures.units[pay_row] * unit_bottom)
        for top, unit in zip(tops, figures.units)
    ]


def bound(bond):
    """How both holders of a bond are paid most: a triple of amounts, the whole of which they are parts, and rates."""
    figures = whole_figures(bond)
    bits = FIRST_BITS
    steps = MOST_STEPS * (1 + len(bond.targets))
    while True:
        settled = settled_bond(mixed(bond, bits, steps), figures)
        if settled is not None:
            (found, whole), rates = settled
            return (found, whole, fractions_of(bond, figures, rates))
        # Rounding led astray, or a lack has to count more.
        bits = 4 * bits
        steps = 4 * steps
