"""Mixtures settled: the amounts that meet all targets just so, from those that nearly do.

The extras of a mixture, lacks too, have just one row of amounts by which all targets
are met; the rows of the mixture nearly tell it.
"""

from tellsless.keyed import Keyed
from tellsless.ratios import ONE
from tellsless.refining import Refining


def column_of(mixture, keyed, place):
    """What an extra with the amount ONE does to the targets, and what it gains in pay: a row of parts."""
    extra = mixture.extras[place]
    if extra is None:
        return {place: mixture.signs[place] * keyed.figures.units[place]}
    return keyed.effects_of(extra)


def columns_of(mixture, keyed):
    """What all extras do to the targets: rows of parts, without what is paid."""
    many = len(mixture.extras)
    return [
        {row: effect for row, effect in column_of(mixture, keyed, place).items() if row < many}
        for place in range(many)
    ]


def is_wrong(mixture, refining):
    """Whether some amount surely is below NOUGHT, or some lack is not NOUGHT, or bits are found no more."""
    slack = 1 << refining.known // 2
    if any([amount < -slack for amount in refining.amounts]):
        return True
    if any([extra is None and amount > slack for extra, amount in zip(mixture.extras, refining.amounts)]):
        return True
    return refining.is_lost()


def amounts_found(mixture, keyed, tops, bottom):
    """The amounts of all entries, parts of a bottom, from those of the extras; None if they cannot be."""
    if any([extra is None and top != 0 for extra, top in zip(mixture.extras, tops)]):
        return None
    parts = mixture.parts(tops)
    found = {keyed.key_at(turn): top for turn, top in keyed.amounts_of_keys(bottom, parts).items()}
    # If rounding led astray, an entry may be twice among them.
    for entry, top in parts:
        found[entry] = found.get(entry, 0) + top
    if any([top < 0 for top in found.values()]):
        return None
    return found


def settled_amounts(mixture, figures):
    """The amounts that meet all targets just so: a pair of a dict of entries with the tops, and of their bottom.

    None if there are none for what a mixture does. The figures are whole.
    """
    keyed = Keyed(figures, mixture.keyed.chosen)
    columns = columns_of(mixture, keyed)
    refining = Refining(columns, [ONE] * len(columns), keyed.lacks(), figures.units, mixture.rows, mixture.bits)
    most = refining.most_known()
    goal = 1
    while refining.known < most:
        refining.grow()
        if is_wrong(mixture, refining):
            return None
        if refining.known >= goal:
            goal = 2 * refining.known
            exact = refining.exact()
            if exact is not None:
                found = amounts_found(mixture, keyed, exact[0], exact[1])
                if found is not None:
                    return (found, exact[1])
    return None
