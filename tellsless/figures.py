"""Figures: what is gained at turns, reckoned in integers.

In each row there are UNITS: what counts as much there. Each unit is a number of PARTS; of
whole figures they are such that all gains are whole, of near ones each unit is the
same power of two, and the gains are rounded down.
"""

from math import lcm

from tellsless.ratios import times_whole


class Figures:
    """The turn at which one begins, the doings at all turns, the parts of the targets, and those of the units.

    Under the number of a turn stands a list of its doings, pairs of the turns behind
    and of gains: pairs of a row and of parts. Behind the rows of the targets there may be
    one row more: of what is paid.
    """

    def __init__(self, begin, doings, targets, units):
        self.begin = begin
        self.doings = doings
        self.targets = targets
        self.units = units


def whole_parts(errand):
    """How many parts ONE has in each row, so that all gains, targets and units are whole."""
    parts = [unit[1] for unit in errand.units]
    for row, target in enumerate(errand.targets):
        parts[row] = lcm(parts[row], target[1])
    for doings in errand.doings:
        for _, _, _, gains in doings:
            for row, gain in gains:
                parts[row] = lcm(parts[row], gain[1])
    return parts


def whole_gains(gains, parts):
    """Gains in so many parts that all are whole."""
    return [(row, times_whole(gain, parts[row])) for row, gain in gains]


def whole_figures(errand):
    """The figures of an errand in parts of which all gains, targets and units are whole numbers."""
    parts = whole_parts(errand)
    doings = [
        [(behind, whole_gains(gains, parts)) for _, _, behind, gains in found]
        for found in errand.doings
    ]
    targets = [times_whole(target, many) for target, many in zip(errand.targets, parts)]
    units = [times_whole(unit, many) for unit, many in zip(errand.units, parts)]
    return Figures(errand.begin, doings, targets, units)


def near_part(fraction, unit, bits):
    """A fraction in parts of which a unit has 1 << bits, rounded down."""
    return (fraction[0] * unit[1] << bits) // (fraction[1] * unit[0])


def near_figures(errand, bits):
    """The figures of an errand in parts of which each unit has 1 << bits."""
    units = errand.units
    doings = [
        [(behind, [(row, near_part(gain, units[row], bits)) for row, gain in gains]) for _, _, behind, gains in found]
        for found in errand.doings
    ]
    targets = [near_part(target, unit, bits) for target, unit in zip(errand.targets, units)]
    return Figures(errand.begin, doings, targets, [1 << bits] * len(units))
