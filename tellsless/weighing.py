"""What the turns of an errand are worth at some RATES: what a unit of each target gains, perhaps below NOUGHT.

Rates are weighed as integers, all times one number: only which worths are above others counts.
"""

from tellsless.ratios import common_bottom, is_less, multiplied, times_whole, total


def worths_of(doings, rates, worths):
    """What each doing at a turn is worth at some rates, by the worths of the turns behind."""
    found = []
    for behind, gains in doings:
        worth = 0
        for row, gain in gains:
            worth += rates[row] * gain
        for turn in behind:
            worth += worths[turn]
        found.append(worth)
    return found


def weighed(errand, rates, settled):
    """What all turns are worth if at some a doing is settled, and at all others the best is done.

    A triple: the worths; at each turn the number of the best doing; and the turn at
    which the best doing is above the settled one by most, None if none is.
    """
    worths = []
    bests = []
    most = 0
    found = None
    for turn, doings in enumerate(errand.whole_doings):
        row = worths_of(doings, rates, worths)
        worth = max(row)
        bests.append(row.index(worth))
        if turn in settled:
            if worth - row[settled[turn]] > most:
                most = worth - row[settled[turn]]
                found = turn
            worth = row[settled[turn]]
        worths.append(worth)
    return (worths, bests, found)


def whole_rates(rates):
    """Some rates, all times one number, as integers."""
    whole = common_bottom(rates)
    return [times_whole(rate, whole) for rate in rates]


def gain_of_targets(errand, rates):
    """What the targets gain at some rates, a fraction."""
    return total([multiplied((rate, 1), target) for rate, target in zip(rates, errand.targets)])


def are_beyond(errand, rates):
    """Whether at some rates no plan gains as much as the targets do, so that they cannot be met."""
    worths = weighed(errand, rates, {})[0]
    return is_less((worths[errand.begin], errand.whole), gain_of_targets(errand, rates))
