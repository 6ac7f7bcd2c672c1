"""Figures: what is gained at the turns of an errand, reckoned in integers.

Each target is a number of PARTS; of whole figures they are such that all gains are
whole, of near ones each target is the same power of two, and the gains are rounded down.
"""

from math import lcm

from tellsless.ratios import times_whole


class Figures:
    """The turn at which an errand begins, the doings at all turns, and the parts of which the targets are.

    Under the number of a turn stands a list of its doings, pairs of the turns behind
    and of gains: pairs of the row of a target and of parts.
    """

    def __init__(self, begin, doings, targets):
        self.begin = begin
        self.doings = doings
        self.targets = targets


def whole_parts(errand):
    """How many parts ONE has in each row, so that all gains and targets are whole."""
    parts = [target[1] for target in errand.targets]
    for doings in errand.doings:
        for _, _, _, gains in doings:
            for row, gain in gains:
                parts[row] = lcm(parts[row], gain[1])
    return parts


def whole_gains(gains, parts):
    """Gains in so many parts that all are whole."""
    return [(row, times_whole(gain, parts[row])) for row, gain in gains]


def whole_figures(errand):
    """The figures of an errand in parts of which all gains and targets are whole numbers."""
    parts = whole_parts(errand)
    doings = [
        [(behind, whole_gains(gains, parts)) for _, _, behind, gains in found]
        for found in errand.doings
    ]
    targets = [times_whole(target, many) for target, many in zip(errand.targets, parts)]
    return Figures(errand.begin, doings, targets)


def near_gains(gains, targets, bits):
    """Gains in parts of which each target has 1 << bits, rounded down."""
    found = []
    for row, (top, bottom) in gains:
        target_top, target_bottom = targets[row]
        found.append((row, (top * target_bottom << bits) // (bottom * target_top)))
    return found


def near_figures(errand, bits):
    """The figures of an errand in parts of which each target has 1 << bits."""
    doings = [
        [(behind, near_gains(gains, errand.targets, bits)) for _, _, behind, gains in found]
        for found in errand.doings
    ]
    return Figures(errand.begin, doings, [1 << bits] * len(errand.targets))
