"""Keys: one doing at each turn of an errand that is come to, which is done if nothing else is said there."""


def put_gains(row, sign, gains):
    """Adds pairs of a place and parts to a row, with a sign."""
    for place, gain in gains:
        row[place] = row.get(place, 0) + sign * gain


class Keyed:
    """The keys of an errand, by its figures: a dict of turns, with the numbers of the doings that are the keys there.

    An ENTRY is a pair: a turn and the number of a doing there. Amounts are integers.
    """

    def __init__(self, figures, chosen):
        self.figures = figures
        self.chosen = chosen

    def behind(self, entry):
        """The turns to which an entry leads."""
        return self.figures.doings[entry[0]][entry[1]][0]

    def key_at(self, turn):
        """The key at a turn, as an entry."""
        return (turn, self.chosen[turn])

    def visit(self, turns, bests):
        """Settles keys at some turns and behind them, where there are none: the best doings."""
        waiting = list(turns)
        while len(waiting) > 0:
            turn = waiting.pop()
            if turn not in self.chosen:
                self.chosen[turn] = bests[turn]
                waiting.extend(self.behind(self.key_at(turn)))

    def forget(self, entries):
        """Forgets the keys of turns to which neither keys nor some entries lead."""
        waiting = [self.figures.begin]
        for entry in entries:
            waiting.append(entry[0])
            waiting.extend(self.behind(entry))
        found = {}
        while len(waiting) > 0:
            turn = waiting.pop()
            if turn not in found:
                found[turn] = self.chosen[turn]
                waiting.extend(self.behind(self.key_at(turn)))
        self.chosen = found

    def follow(self, begin, sign, row):
        """Adds to a row, with a sign, how the keys from a turn on help to meet the targets."""
        waiting = [begin]
        while len(waiting) > 0:
            turn = waiting.pop()
            behind, gains = self.figures.doings[turn][self.chosen[turn]]
            put_gains(row, sign, gains)
            waiting.extend(behind)

    def lacks(self):
        """What is lacking of the targets if nothing but the keys is done, in parts."""
        met = {}
        self.follow(self.figures.begin, 1, met)
        return [target - met.get(place, 0) for place, target in enumerate(self.figures.targets)]

    def effects_of(self, entry):
        """What it does to the targets if an entry takes the place of the key at its turn: a row of parts."""
        turn, doing = entry
        row = {}
        behind, gains = self.figures.doings[turn][doing]
        put_gains(row, 1, gains)
        for inner in behind:
            self.follow(inner, 1, row)
        self.follow(turn, -1, row)
        return {place: effect for place, effect in row.items() if effect != 0}

    def amounts_of_keys(self, begins, parts):
        """The amounts of the keys if so much begins, and parts of what comes are done otherwise.

        The parts are pairs of an entry and its amount.
        """
        others = {}
        for entry, amount in parts:
            others.setdefault(entry[0], []).append((entry, amount))
        come = {self.figures.begin: begins}
        found = {}
        for turn in sorted(self.chosen, reverse=True):
            amount = come.get(turn, 0)
            for entry, part in others.get(turn, []):
                amount -= part
                self.lead(entry, part, come)
            found[turn] = amount
            self.lead(self.key_at(turn), amount, come)
        return found

    def lead(self, entry, amount, come):
        """Adds the amount of an entry to what comes to the turns behind it."""
        if amount != 0:
            for inner in self.behind(entry):
                come[inner] = come.get(inner, 0) + amount

    def passing(self, turn):
        """For each turn with a key how often who follows the keys from there on comes to a turn: 1 or 0."""
        found = {}
        for number in sorted(self.chosen):
            inner = [found[behind] for behind in self.behind(self.key_at(number))]
            found[number] = int(number == turn) + sum(inner)
        return found
