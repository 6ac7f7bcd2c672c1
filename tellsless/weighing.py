"""What the turns of an errand are worth at some RATES: what a part of each target gains, perhaps below NOUGHT.

Rates are integers: only which worths are above others counts.
"""


def worths_of(doings, rates, worths):
    """What each doing at a turn is worth at some rates, by the worths of the turns behind."""
    found = []
    for behind, gains in doings:
        worth = 0
        for row, gain in gains:
            worth += rates[row] * gain
        for turn in behind:
            worth += worths[turn]
        found.append(worth)
    return found


def weighed(figures, rates, settled):
    """What is best at all turns if at some a doing is settled, and at all others the best is done.

    A triple: at each turn the number of the best doing; what the begin is worth; and
    pairs (excess, turn) for the turns at which the best is worth more than what is settled.
    """
    worths = []
    bests = []
    excesses = []
    for turn, doings in enumerate(figures.doings):
        row = worths_of(doings, rates, worths)
        worth = max(row)
        bests.append(row.index(worth))
        if turn in settled:
            excess = worth - row[settled[turn]]
            if excess > 0:
                excesses.append((excess, turn))
            worth = row[settled[turn]]
        worths.append(worth)
    return (bests, worths[figures.begin], excesses)


def worth_of_targets(figures, rates):
    """What the targets are worth at some rates."""
    return sum([rate * target for rate, target in zip(rates, figures.targets)])


def high_worth(doings, rates, worths):
    """What the best doing at a turn is worth at some rates at most, whatever was rounded down of its gains."""
    found = []
    for behind, gains in doings:
        worth = 0
        for row, gain in gains:
            worth += max(rates[row] * gain, rates[row] * (gain + 1))
        for turn in behind:
            worth += worths[turn]
        found.append(worth)
    return max(found)


def are_beyond(figures, rates):
    """Whether at some rates surely no plan gains as much as the targets do, so that they cannot be met.

    The targets have to be exact, the gains may be rounded down by less than a part.
    """
    worths = []
    for doings in figures.doings:
        worths.append(high_worth(doings, rates, worths))
    return worths[figures.begin] < worth_of_targets(figures, rates)


def slim_rates(figures, rates):
    """Rates of as few bits as still do, where some rates show that targets cannot be met."""
    great = max([abs(rate) for rate in rates]).bit_length()
    bits = 4
    while bits < great:
        slim = [rate >> (great - bits) for rate in rates]
        if are_beyond(figures, slim):
            return slim
        bits = 2 * bits
    return rates
