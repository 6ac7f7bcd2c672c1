"""Desks: houses and programs are kept under names, and asked for by lines."""

from tellsless.deciding import are_alike, can_stand
from tellsless.errors import NoName, NothingDone
from tellsless.numerals import fraction_text
from tellsless.orders import order_of
from tellsless.rooms import beside
from tellsless.running import house_of
from tellsless.sources import program_text, read_program
from tellsless.tearing import torn
from tellsless.texts import house_text, read_house
from tellsless.worths import luck, worth


def in_one_line(text):
    """A text with a sign in the place of each line feed."""
    return text.replace("\n", "|")


def in_lines(text):
    """A text that stood in one line."""
    return text.replace("|", "\n")


def kept_house(things, more):
    """The house of a text."""
    return read_house(in_lines(more))


def kept_program(things, more):
    """The program of a text."""
    return read_program(in_lines(more))


def run_house(things, more):
    """The house of a program, with some houses inside."""
    return house_of(things[0], tuple(things[1:]))


def beside_house(things, more):
    """Two houses beside one another."""
    return beside(things[0], things[1])


def torn_house(things, more):
    """A house torn so many times."""
    return torn(things[0], more)


def told_house(things, more):
    """The text of a house."""
    return in_one_line(house_text(things[0]))


def told_program(things, more):
    """The text of a program."""
    return in_one_line(program_text(things[0]))


def told_luck(things, more):
    """The luck of a house."""
    return fraction_text(luck(things[0]))


def told_worth(things, more):
    """The worth of a house, by a prior and gains."""
    return fraction_text(worth(things[0], more[0], more[1]))


def told_paper(things, more):
    """Which of both papers there is for two houses."""
    if can_stand(things[0], things[1]):
        return "between"
    return "against"


def told_alike(things, more):
    """Whether two houses are alike."""
    if are_alike(things[0], things[1]):
        return "yes"
    return "no"


MAKERS = {
    "house": kept_house,
    "program": kept_program,
    "run": run_house,
    "beside": beside_house,
    "torn": torn_house,
}
TELLERS = {
    "show": told_house,
    "source": told_program,
    "luck": told_luck,
    "worth": told_worth,
    "decide": told_paper,
    "alike": told_alike,
}


class Desk:
    """A desk: a dict of what is kept, and what stood there ahead of each line that can be taken back."""

    def __init__(self):
        self.shelf = {}
        self.elders = []

    def tell(self, line):
        """Does a line, and tells what comes of it."""
        verb, kept, needed, more = order_of(line)
        things = [self.thing_at(key) for key in needed]
        if verb == "undo":
            self.undo()
            return "ok"
        if kept is None:
            teller = TELLERS[verb]
            return teller(things, more)
        maker = MAKERS[verb]
        self.keep(kept, maker(things, more))
        return "ok"

    def thing_at(self, key):
        """What is kept under a key; raises NoName if nothing is."""
        if key not in self.shelf:
            raise NoName(key[1])
        return self.shelf[key]

    def keep(self, key, thing):
        """Keeps a thing under a key."""
        self.elders.append((key, self.shelf.get(key, None)))
        self.shelf[key] = thing

    def undo(self):
        """Takes the last line back that kept something."""
        if len(self.elders) == 0:
            raise NothingDone()
        key, elder = self.elders.pop()
        if elder is None:
            del self.shelf[key]
        else:
            self.shelf[key] = elder

    def undoable(self):
        """How many lines can be taken back."""
        return len(self.elders)
