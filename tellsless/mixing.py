"""Mixtures: how much of what is done at each turn, so that all targets are met, but for next to nothing.

The amounts of the doings are ONE in all at the turn at which all begins, and at each other
turn as much as leads there. By how much a target is missed is the amount of its LACK.
The lacks are made less by the simplex method: at each turn that is come to one doing is
the KEY; beside the keys there are as many EXTRAS as targets: entries that are no keys, or
lacks (None). All else has the amount NOUGHT. The amounts of the keys follow from those
of the extras. In each step an entry enters, and an extra or a key leaves.

Each extra has a ROW: how its amount grows with each target. Where amounts alone do not
settle what leaves, the rows do, as if each target were above itself by next to nothing,
a later one by much less: so no standing comes twice. The RATES tell how the lacks, all
together, grow with each target. Where something is paid, too, it counts against the
lacks by a rate that stays, behind the others.

All numbers are rounded: integers that count parts of which ONE has 1 << bits. What is no
more than TINY counts as nothing. What is found so has to be tried.
"""

from tellsless.keyed import Keyed
from tellsless.weighing import weighed

MOST_TRIED = 20


def sign_of(number):
    """1, or -1 for a number below 0."""
    if number < 0:
        return -1
    return 1


class Mixture:
    """Keys, extras and their amounts, as the simplex method changes them.

    It begins with some doings, one at each turn, as the keys. What is paid counts by a rate.
    """

    def __init__(self, figures, bits, begin, rate):
        self.figures = figures
        self.bits = bits
        self.tiny = 1 << bits // 2
        self.keyed = Keyed(figures, {})
        self.keyed.visit([figures.begin], begin)
        self.extras = []
        self.rows = []
        self.amounts = []
        self.rates = []
        # The sign with which the lack of each target counts.
        self.signs = []
        self.start(rate)

    def start(self, rate):
        """Lets the extras be the lacks that the keys leave."""
        for place, lack in enumerate(self.keyed.lacks()):
            sign = sign_of(lack)
            row = [0] * (len(self.figures.targets) + 1)
            row[place] = sign << self.bits
            self.extras.append(None)
            self.rows.append(row)
            self.amounts.append(abs(lack))
            self.rates.append(row[place])
            self.signs.append(sign)
        self.rates.append(rate)

    def next_entry(self):
        """The entry that is to enter next; None if none makes the lacks less."""
        bests, _, excesses = weighed(self.figures, self.rates, self.keyed.chosen)
        return self.entering(bests, excesses)

    def entering(self, bests, excesses):
        """The entry that is to enter, one of the best doings; None if none makes the lacks less.

        Of those that gain most the one is taken that gains most for what it does to all
        targets: so there are fewer steps. An extra that seems to gain does so by rounding alone.
        """
        least = self.tiny << self.bits
        best = 0
        found = None
        for excess, turn in sorted(excesses, reverse=True)[:MOST_TRIED]:
            entry = (turn, bests[turn])
            if excess > least and entry not in self.extras:
                self.keyed.visit(self.keyed.behind(entry), bests)
                effects = self.keyed.effects_of(entry)
                gain = excess * excess // (1 + sum([effect * effect for effect in effects.values()]))
                if found is None or gain > best:
                    best = gain
                    found = entry
        return found

    def is_met(self):
        """Whether nothing is lacking."""
        return all([
            extra is not None or abs(amount) <= self.tiny
            for extra, amount in zip(self.extras, self.amounts)
        ])

    def parts(self, amounts):
        """The entries among the extras, with their amounts in a list of those of all extras."""
        return [(extra, amount) for extra, amount in zip(self.extras, amounts) if extra is not None]

    def enter(self, entry):
        """Lets an entry enter, as much of it as can be, and something leave; tells whether something could."""
        effects = self.keyed.effects_of(entry)
        falls = self.falls(effects)
        ways = self.ways_out(entry, falls)
        if len(ways) == 0:
            return False
        way = self.leaving(ways)
        step, fall, is_key, number = way
        row = [(growth << self.bits) // fall for growth in self.row_of(is_key, number)]
        self.change(effects, falls, row, step)
        self.settle(way, entry, row)
        self.keyed.forget([extra for extra in self.extras if extra is not None])
        return True

    def falls(self, effects):
        """By how much each extra falls if something with some effects enters."""
        return [sum([effect * row[place] for place, effect in effects.items()]) >> self.bits for row in self.rows]

    def ways_out(self, entry, falls):
        """All that could leave if an entry enters, by which the extras fall so.

        A list of tuples (step, fall, is_key, number): how much can enter until it is
        used up, by how much it falls, whether it is a key, and its turn, or the number
        of an extra. A key beside which nothing is done at its turn stays: with it falls
        something that leads there.
        """
        ways = []
        for number, fall in enumerate(falls):
            if fall > self.tiny:
                ways.append((self.step_to(self.amounts[number], fall), fall, False, number))
        amounts = self.keyed.amounts_of_keys(1 << self.bits, self.parts(self.amounts))
        changing = self.parts([-fall for fall in falls]) + [(entry, 1 << self.bits)]
        changes = self.keyed.amounts_of_keys(0, changing)
        for turn in sorted(set([extra[0] for extra, _ in changing])):
            if -changes[turn] > self.tiny:
                ways.append((self.step_to(amounts[turn], -changes[turn]), -changes[turn], True, turn))
        return ways

    def step_to(self, amount, fall):
        """How much can enter until an amount is used up, which falls so."""
        return (max(0, amount) << self.bits) // fall

    def leaving(self, ways):
        """Of all that could leave what does."""
        least = min([way[0] for way in ways])
        ways = [way for way in ways if way[0] <= least + self.tiny]
        if len(ways) == 1:
            return ways[0]
        rows = [self.row_of(is_key, number) for _, _, is_key, number in ways]
        for place in range(len(self.rows)):
            growths = [(row[place] << self.bits) // way[1] for way, row in zip(ways, rows)]
            least = min(growths) + self.tiny
            rows = [row for row, growth in zip(rows, growths) if growth <= least]
            ways = [way for way, growth in zip(ways, growths) if growth <= least]
        return ways[0]

    def row_of(self, is_key, number):
        """How something that could leave grows with each target."""
        if is_key:
            return self.key_row(number)
        return self.rows[number]

    def key_row(self, turn):
        """How the amount of the key at a turn grows with each target: by the extras that lead there, or elsewhere."""
        passing = self.keyed.passing(turn)
        row = [0] * len(self.rates)
        for extra, extra_row in zip(self.extras, self.rows):
            if extra is not None:
                times = sum([passing[behind] for behind in self.keyed.behind(extra)]) - passing[extra[0]]
                if times != 0:
                    row = [growth + times * more for growth, more in zip(row, extra_row)]
        return row

    def change(self, effects, falls, row, step):
        """Changes all extras and the rates by a step of something that enters, which gets a row."""
        bits = self.bits
        gain = sum([self.rates[place] * effect for place, effect in effects.items()]) >> bits
        self.rates = [rate - (gain * growth >> bits) for rate, growth in zip(self.rates, row)]
        for number, fall in enumerate(falls):
            if fall != 0:
                self.rows[number] = [old - (fall * growth >> bits) for old, growth in zip(self.rows[number], row)]
                self.amounts[number] -= fall * step >> bits

    def settle(self, way, entry, row):
        """Lets an entry take the place of what leaves, as a key or as an extra with a row."""
        step, _, is_key, number = way
        if is_key and number == entry[0]:
            self.keyed.chosen[number] = entry[1]
            return
        if is_key:
            place = [extra is not None and extra[0] == number for extra in self.extras].index(True)
            self.keyed.chosen[number] = self.extras[place][1]
            number = place
        self.extras[number] = entry
        self.rows[number] = row
        self.amounts[number] = step
