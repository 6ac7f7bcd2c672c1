"""Mixtures settled: the amounts that meet the targets of an errand just so, from those that nearly do.

The extras of a mixture, lacks too, have just one row of amounts by which all targets
are met. It is found bit by bit: the rows of the mixture tell how much of each extra
there is in what is LEFT of the targets; that is taken, and what is left then is made
greater, so that the next bits can be told. From enough bits the fractions are guessed,
and tried.
"""

from tellsless.figures import whole_figures
from tellsless.keyed import Keyed


def simple_bottom(near, bits):
    """The bottom of the simplest fraction that is next to so many parts of which ONE has 1 << bits."""
    rest, last = near, 1 << bits
    bottom, before = 1, 0
    while rest >> (bits // 2) > 0:
        times = last // rest
        last, rest = rest, last - times * rest
        before, bottom = bottom, before + times * bottom
    return bottom


class Settling:
    """What is known of the amounts of all extras of a mixture: integers, parts of which ONE has 1 << known."""

    def __init__(self, mixture):
        self.mixture = mixture
        self.keyed = Keyed(whole_figures(mixture.errand), mixture.keyed.chosen)
        self.targets = self.keyed.figures.targets
        self.columns = [self.column(place) for place in range(len(mixture.extras))]
        self.goal = self.keyed.lacks()
        self.left = self.goal
        self.amounts = [0] * len(self.columns)
        self.known = 0

    def column(self, place):
        """What an extra with the amount ONE does to the targets: a row of parts."""
        extra = self.mixture.extras[place]
        if extra is None:
            return {place: self.mixture.signs[place] * self.targets[place]}
        return self.keyed.effects_of(extra)

    def made(self, amounts):
        """What amounts of all extras do to the targets, in parts."""
        found = [0] * len(self.targets)
        for amount, column in zip(amounts, self.columns):
            if amount != 0:
                for place, effect in column.items():
                    found[place] += amount * effect
        return found

    def grow(self):
        """Finds some bits more of all amounts."""
        bits = self.mixture.bits
        more = bits // 2
        near = [(left << bits) // target for left, target in zip(self.left, self.targets)]
        steps = [
            sum([growth * rest for growth, rest in zip(row, near)]) >> (2 * bits - more)
            for row in self.mixture.rows
        ]
        self.left = [(left << more) - made for left, made in zip(self.left, self.made(steps))]
        self.amounts = [(amount << more) + step for amount, step in zip(self.amounts, steps)]
        self.known += more

    def is_wrong(self):
        """Whether some amount surely is below NOUGHT, or some lack is not NOUGHT, or bits are found no more."""
        slack = 1 << self.known // 2
        if any([amount < -slack for amount in self.amounts]):
            return True
        if any([extra is None and amount > slack for extra, amount in zip(self.mixture.extras, self.amounts)]):
            return True
        return any([abs(left) >> self.mixture.bits > target for left, target in zip(self.left, self.targets)])

    def guessed(self):
        """A pair of the tops of all amounts and of their bottom, as they seem to be; None if too few bits are known."""
        bottom = 1
        whole = 1 << self.known
        for amount in self.amounts:
            bottom *= simple_bottom((amount * bottom) & (whole - 1), self.known)
            if bottom * bottom > whole:
                return None
        return ([(amount * bottom + whole // 2) >> self.known for amount in self.amounts], bottom)

    def settled(self):
        """The amounts of all entries, a pair of tops and their bottom, if what is known tells them; None otherwise."""
        guess = self.guessed()
        if guess is None:
            return None
        tops, bottom = guess
        if self.made(tops) != [lack * bottom for lack in self.goal]:
            return None
        if any([extra is None and top != 0 for extra, top in zip(self.mixture.extras, tops)]):
            return None
        parts = self.mixture.parts(tops)
        found = {self.keyed.key_at(turn): top for turn, top in self.keyed.amounts_of_keys(bottom, parts).items()}
        # If rounding led astray, an entry may be twice among them.
        for entry, top in parts:
            found[entry] = found.get(entry, 0) + top
        if any([top < 0 for top in found.values()]):
            return None
        return (found, bottom)

    def most_known(self):
        """More bits than are needed for all amounts of a mixture."""
        many = 0
        for column in self.columns:
            many += 1 + max([abs(effect) * len(self.columns) for effect in column.values()], default=0).bit_length()
        many += max([abs(lack) for lack in self.goal], default=0).bit_length()
        return 8 * (many + self.mixture.bits)


def settled_amounts(mixture):
    """The amounts that meet all targets just so: a pair of a dict of entries with the tops, and of their bottom.

    None if there are none for what a mixture does.
    """
    if not mixture.is_met():
        return None
    settling = Settling(mixture)
    most = settling.most_known()
    goal = 1
    while settling.known < most:
        settling.grow()
        if settling.is_wrong():
            return None
        if settling.known >= goal:
            goal = 2 * settling.known
            found = settling.settled()
            if found is not None:
                return found
    return None
