"""Sums that have to come out just so, found bit by bit: how much of each column makes a goal.

A COLUMN is a row of integers, a dict of places. A nearly right way to split what is left
of the goal among the columns is known; with it some bits more of all amounts are found
again and again, until the fractions that they are can be told.
"""


def simple_bottom(near, bits):
    """The bottom of the simplest fraction that is next to so many parts of which ONE has 1 << bits."""
    rest, last = near, 1 << bits
    bottom, before = 1, 0
    while rest >> (bits // 2) > 0:
        times = last // rest
        last, rest = rest, last - times * rest
        before, bottom = bottom, before + times * bottom
    return bottom


class Refining:
    """What is known of the amounts of all columns: integers, parts of which ONE has 1 << known.

    What is left of the goal is taken in the units of its places, and split by rows, one for
    each column, of parts of which ONE has 1 << bits; that is how much of the column's own
    unit, a fraction, is still to be taken.
    """

    def __init__(self, columns, column_units, goal, units, rows, bits):
        self.columns = columns
        self.column_units = column_units
        self.goal = goal
        self.units = units
        self.rows = rows
        self.bits = bits
        self.left = goal
        self.amounts = [0] * len(columns)
        self.known = 0

    def made(self, amounts):
        """What amounts of all columns make."""
        found = [0] * len(self.goal)
        for amount, column in zip(amounts, self.columns):
            if amount != 0:
                for place, effect in column.items():
                    found[place] += amount * effect
        return found

    def grow(self):
        """Finds some bits more of all amounts."""
        more = self.bits // 2
        near = [(left << self.bits) // unit for left, unit in zip(self.left, self.units)]
        steps = [
            sum([growth * rest for growth, rest in zip(row, near)]) * top // (bottom << 2 * self.bits - more)
            for row, (top, bottom) in zip(self.rows, self.column_units)
        ]
        self.left = [(left << more) - made for left, made in zip(self.left, self.made(steps))]
        self.amounts = [(amount << more) + step for amount, step in zip(self.amounts, steps)]
        self.known += more

    def is_lost(self):
        """Whether bits are found no more."""
        return any([abs(left) >> self.bits > unit for left, unit in zip(self.left, self.units)])

    def guessed(self):
        """A pair of the tops of all amounts and of their bottom, as they seem to be; None if too few bits are known."""
        bottom = 1
        whole = 1 << self.known
        for amount in self.amounts:
            bottom *= simple_bottom((amount * bottom) & (whole - 1), self.known)
            if bottom * bottom > whole:
                return None
        return ([(amount * bottom + whole // 2) >> self.known for amount in self.amounts], bottom)

    def exact(self):
        """The pair that is guessed if it makes the goal; None otherwise."""
        guess = self.guessed()
        if guess is None:
            return None
        tops, bottom = guess
        if self.made(tops) != [part * bottom for part in self.goal]:
            return None
        return guess

    def most_known(self):
        """More bits than are needed for all amounts."""
        many = 0
        for column in self.columns:
            many += 1 + max([abs(effect) * len(self.columns) for effect in column.values()], default=0).bit_length()
        many += max([abs(part) for part in self.goal], default=0).bit_length()
        return 8 * (many + self.bits)
