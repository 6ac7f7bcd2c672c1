"""Spans: what sums of multiples of some rows of integers can be."""

from math import gcd, lcm


def plain(row):
    """A row divided by the greatest number that divides all its numbers."""
    common = 0
    for number in row:
        common = gcd(common, number)
    if common < 2:
        return row
    return [number // common for number in row]


def product_of(row, other):
    """The sum of the products of the numbers at the same places of two rows."""
    return sum([first * second for first, second in zip(row, other)])


def are_apart(rows, others):
    """Whether the product of some row and some other one is not 0."""
    return any([product_of(row, other) != 0 for row in rows for other in others])


def first_place(row):
    """The place of the first number of a row that is not 0; None if all are."""
    for place, number in enumerate(row):
        if number != 0:
            return place
    return None


def without(row, other, times):
    """A row less so many times another one."""
    return [number - times * part for number, part in zip(row, other)]


class Span:
    """Rows of which all that were taken are sums of multiples, in their plainest form.

    Each has a place of its own, at which all others are 0: so their numbers stay as small as
    they can be.
    """

    def __init__(self):
        self.kept = []
        self.places = []

    def rest_of(self, row):
        """What is left of a row without what sums of the rows kept can make of it; but for a multiple."""
        whole = 1
        for held, place in zip(self.kept, self.places):
            if row[place] != 0:
                whole = lcm(whole, held[place])
        rest = [number * whole for number in row]
        for held, place in zip(self.kept, self.places):
            if row[place] != 0:
                rest = without(rest, held, row[place] * whole // held[place])
        return plain(rest)

    def take(self, row):
        """Takes a row in, and tells whether it was no sum of multiples of those ahead."""
        rest = self.rest_of(plain(row))
        place = first_place(rest)
        if place is None:
            return False
        for number, held in enumerate(list(self.kept)):
            if held[place] != 0:
                scaled = [rest[place] * part for part in held]
                self.kept[number] = plain(without(scaled, rest, held[place]))
        self.kept.append(rest)
        self.places.append(place)
        return True


def independent(rows):
    """Some of the rows, none of them a sum of multiples of the others, of which all are such sums."""
    span = Span()
    found = []
    for row in rows:
        if span.take(row):
            found.append(row)
    return found
