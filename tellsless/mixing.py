"""Mixtures: how much of what is done at each turn, so that all targets of an errand are met.

The amounts of the doings are ONE in all at the turn at which the errand begins, and at
each other turn as much as leads there. By how much a target is missed is the amount of
its LACK. The lacks are made less by the simplex method: at each turn that is come to
one doing is the KEY; beside the keys there are as many EXTRAS as targets: entries that
are no keys, or lacks (None). All else has the amount NOUGHT. The amounts of the keys
follow from those of the extras. In each step an entry enters, and an extra or a key
leaves.

Each extra has a ROW: how its amount grows with each target. Where amounts alone do not
settle what leaves, the rows do, as if each target were above itself by next to nothing,
a later one by much less: so no standing comes twice. The RATES tell how the lacks, all
together, grow with each target.

Great fractions are rounded to so many bits: then what is found has to be tried.
"""

from tellsless.keyed import LESS, Keyed, less
from tellsless.likeness import passing_doings
from tellsless.nearing import Nearing
from tellsless.ratios import NOUGHT, ONE, divided, greatest_of, is_less, lessened, multiplied, reduced, total
from tellsless.weighing import are_beyond, weighed, whole_rates

FIRST_BITS = 400
STEPS_ALONE = 30
NEARING_STEPS = 4


def rounded(fraction, bits):
    """A fraction itself, or one near to it if it needs more than so many bits; NOUGHT if it is next to nothing."""
    top, bottom = fraction
    many = bottom.bit_length()
    if many <= bits // 2:
        return fraction
    if abs(top) << (bits // 2) < bottom:
        return NOUGHT
    if many <= bits + 1:
        return fraction
    return reduced((top << bits) // bottom, 1 << bits)


def inverse_of(fraction):
    """ONE divided by a fraction that is not NOUGHT."""
    if fraction[0] < 0:
        return (-fraction[1], -fraction[0])
    return (fraction[1], fraction[0])


def product_of(row, other):
    """The sum of the products of the fractions at the same places of two rows."""
    return total([multiplied(fraction, other[place]) for place, fraction in row.items() if place in other])


class Mixture:
    """Keys, extras and their amounts, as the simplex method changes them; bits are None if nothing is rounded."""

    def __init__(self, keyed, bits):
        self.keyed = keyed
        self.bits = bits
        self.is_rough = False
        self.extras = []
        self.rows = []
        self.amounts = []
        self.rates = []
        self.against = None
        self.nearing = None
        self.start(keyed.errand)

    def start(self, errand):
        """Lets the extras be the lacks that the keys leave."""
        met = {}
        self.keyed.follow(errand.begin, ONE, met)
        for place, target in enumerate(errand.targets):
            lack = lessened(target, ONE, met.get(place, NOUGHT))
            sign = ONE
            if lack[0] < 0:
                sign = LESS
            self.extras.append(None)
            self.rows.append({place: sign})
            self.amounts.append(multiplied(sign, lack))
            self.rates.append(sign)

    def run(self):
        """Makes the lacks less until there are none, or until rates, kept as against, show that some must stay.

        If fractions were rounded it may also give up.
        """
        steps = 0
        left = 100 + 40 * len(self.extras)
        while not self.is_met() and left > 0:
            rates = whole_rates(self.rates)
            self.against = self.shown(rates, steps)
            if self.against is not None:
                return
            _, bests, turn = weighed(self.keyed.errand, rates, self.keyed.chosen)
            if turn is None or not self.enter((turn, bests[turn]), bests):
                return
            steps += 1
            left -= int(self.is_rough)

    def shown(self, rates, steps):
        """Rates that show that some lacks must stay; None if none do so far.

        If many steps have been done already, they are looked for on another way, too: where
        much lacks it is often the shorter one.
        """
        errand = self.keyed.errand
        if are_beyond(errand, rates):
            return rates
        if steps < STEPS_ALONE:
            return None
        if self.nearing is None:
            self.nearing = Nearing(errand)
        return self.nearing.steps(NEARING_STEPS)

    def is_met(self):
        """Whether all targets are met."""
        return all([extra is not None or amount == NOUGHT for extra, amount in zip(self.extras, self.amounts)])

    def parts(self, amounts):
        """The entries among the extras, with their amounts in a list of those of all extras."""
        return [(extra, amount) for extra, amount in zip(self.extras, amounts) if extra is not None]

    def key_amounts(self):
        """The amounts of the keys."""
        return self.keyed.amounts_of_keys(ONE, self.parts(self.amounts))

    def mixed(self):
        """All amounts: a dict of entries."""
        found = {self.keyed.key_at(turn): amount for turn, amount in self.key_amounts().items()}
        for entry, amount in self.parts(self.amounts):
            found[entry] = amount
        return found

    def near(self, fraction):
        """A fraction itself, or one that is near to it if it is too fine."""
        if self.bits is None:
            return fraction
        found = rounded(fraction, self.bits)
        if found != fraction:
            self.is_rough = True
        return found

    def put_scaled(self, row, times, other):
        """Adds to a row the product of a fraction and another row; NOUGHTs are left out."""
        taken = less(times)
        for place, fraction in other.items():
            row[place] = self.near(lessened(row.get(place, NOUGHT), taken, fraction))
            if row[place] == NOUGHT:
                del row[place]

    def scaled(self, times, other):
        """The product of a fraction and a row."""
        row = {}
        self.put_scaled(row, times, other)
        return row

    def falls(self, effects):
        """By how much each extra falls if something with some effects enters."""
        return [self.near(product_of(effects, row)) for row in self.rows]

    def enter(self, entry, bests):
        """Lets an entry enter, as much of it as can be, and something leave; tells whether something could."""
        self.keyed.visit(self.keyed.behind(entry), bests)
        effects = self.keyed.effects_of(entry)
        falls = self.falls(effects)
        ways = self.ways_out(entry, falls)
        if len(ways) == 0:
            return False
        way, row = self.leaving(ways)
        self.change(effects, falls, row, way[0])
        self.settle(way, entry, row)
        self.keyed.forget([extra for extra in self.extras if extra is not None])
        return True

    def ways_out(self, entry, falls):
        """All that could leave if an entry enters, by which the extras fall so.

        A list of tuples (step, fall, is_key, number): how much can enter until it is
        used up, by how much it falls, whether it is a key, and its turn, or the number
        of an extra. A key beside which nothing is done at its turn stays: with it falls
        something that leads there.
        """
        ways = [
            (self.near(divided(self.amounts[number], fall)), fall, False, number)
            for number, fall in enumerate(falls)
            if fall[0] > 0
        ]
        amounts = self.key_amounts()
        changing = self.parts([less(fall) for fall in falls]) + [(entry, ONE)]
        changes = self.keyed.amounts_of_keys(NOUGHT, changing)
        for turn in sorted(set([extra[0] for extra, _ in changing])):
            fall = self.near(less(changes[turn]))
            if fall[0] > 0:
                ways.append((self.near(divided(amounts[turn], fall)), fall, True, turn))
        return ways

    def leaving(self, ways):
        """Of all that could leave what does, and its row divided by its fall."""
        least = ways[greatest_of([less(way[0]) for way in ways])][0]
        best = None
        best_row = {}
        for way in ways:
            if way[0] == least:
                row = self.fallen_row(way)
                if best is None or self.is_below(row, best_row):
                    best = way
                    best_row = row
        return (best, best_row)

    def fallen_row(self, way):
        """The row of something that could leave, divided by its fall."""
        _, fall, is_key, number = way
        if is_key:
            return self.scaled(inverse_of(fall), self.key_row(number))
        return self.scaled(inverse_of(fall), self.rows[number])

    def is_below(self, row, other):
        """Whether a row is less than another one at the first place at which they are unlike."""
        for place in range(len(self.rows)):
            first = row.get(place, NOUGHT)
            second = other.get(place, NOUGHT)
            if first != second:
                return is_less(first, second)
        return False

    def key_row(self, turn):
        """How the amount of the key at a turn grows with each target: by the extras that lead there, or elsewhere."""
        passing = self.keyed.passing(turn)
        row = {}
        for extra, extra_row in zip(self.extras, self.rows):
            if extra is not None:
                times = sum([passing[behind] for behind in self.keyed.behind(extra)]) - passing[extra[0]]
                if times != 0:
                    self.put_scaled(row, (times, 1), extra_row)
        return row

    def change(self, effects, falls, row, step):
        """Changes all extras and the rates by a step of something that enters, which gets a row."""
        gain = total([multiplied(self.rates[place], effect) for place, effect in effects.items()])
        for number, fall in enumerate(falls):
            if fall != NOUGHT:
                self.put_scaled(self.rows[number], less(fall), row)
                self.amounts[number] = self.near(lessened(self.amounts[number], fall, step))
        for place, fraction in row.items():
            self.rates[place] = self.near(lessened(self.rates[place], gain, fraction))

    def settle(self, way, entry, row):
        """Lets an entry take the place of what leaves, as a key or as an extra with a row."""
        step, _, is_key, number = way
        if is_key and number == entry[0]:
            self.keyed.chosen[number] = entry[1]
            return
        if is_key:
            place = [extra is not None and extra[0] == number for extra in self.extras].index(True)
            self.keyed.chosen[number] = self.extras[place][1]
            number = place
        self.put(number, entry, row, step)

    def put(self, number, entry, row, step):
        """Puts an entry, with a row and an amount, in the place of an extra."""
        self.extras[number] = entry
        self.rows[number] = row
        self.amounts[number] = step

    def adopt(self, entry):
        """Lets an entry take the place of a lack, whatever the amounts become; tells whether it could."""
        effects = self.keyed.effects_of(entry)
        falls = self.falls(effects)
        for number, fall in enumerate(falls):
            if self.extras[number] is None and fall != NOUGHT:
                times = inverse_of(fall)
                row = self.scaled(times, self.rows[number])
                step = multiplied(times, self.amounts[number])
                self.change(effects, falls, row, step)
                self.put(number, entry, row, step)
                return True
        return False

    def is_right(self):
        """Whether all targets are met, by amounts none of which is below NOUGHT."""
        if not self.is_met() or any([amount[0] < 0 for amount in self.amounts]):
            return False
        return not any([amount[0] < 0 for amount in self.key_amounts().values()])


def started(errand, bits):
    """The mixture with which an errand begins: a plan alone, which passes on what it can, and what it lacks."""
    keyed = Keyed(errand)
    bests = weighed(errand, whole_rates(errand.targets), {})[1]
    for turn, doing in enumerate(passing_doings(errand)):
        if doing is not None:
            bests[turn] = doing
    keyed.visit([errand.begin], bests)
    return Mixture(keyed, bits)


def tried(mixture):
    """The mixture of the same keys and extras, with nothing rounded; None if there is none that is right."""
    found = Mixture(mixture.keyed, None)
    for entry, _ in mixture.parts(mixture.amounts):
        if not found.adopt(entry):
            return None
    if not found.is_right():
        return None
    return found


def attempt(errand, bits):
    """A mixture that meets all targets of an errand, or has rates against that; None if rounding led astray."""
    mixture = started(errand, bits)
    mixture.run()
    if mixture.against is not None:
        return mixture
    if not mixture.is_met():
        return None
    if mixture.is_rough:
        return tried(mixture)
    return mixture


def best_mixture(errand):
    """A mixture that meets all targets of an errand, or has rates against that."""
    bits = FIRST_BITS
    found = attempt(errand, bits)
    while found is None:
        bits = 4 * bits
        found = attempt(errand, bits)
    return found
