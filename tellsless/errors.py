"""The errors of the package; each one keeps what it was made with, as it was passed."""


class HouseError(ValueError):
    """What all errors of the package derive from."""


class BadHouse(HouseError):
    """No House: place tells where the first wrong thing stands."""

    def __init__(self, place):
        self.place = place


class NoPath(HouseError):
    """No path of the house."""


class BadProgram(HouseError):
    """No Program: part tells what is wrong first."""

    def __init__(self, part):
        self.part = part


class NoInside(HouseError):
    """No houses that a program could have inside."""


class TooLarge(HouseError):
    """The thing to be made would be too large."""


class NotAlike(HouseError):
    """Houses or machines with unlike numbers of worlds, words or questions."""


class NotBetween(HouseError):
    """No go-between."""


class NoTest(HouseError):
    """No test that is shaped like the house."""


class NoPrior(HouseError):
    """No prior."""


class NoGains(HouseError):
    """No gains."""


class NoAsker(HouseError):
    """No asker of the house."""


class NotLooks(HouseError):
    """Not both houses are looks."""


class NotLook(HouseError):
    """The house is no look."""


class NotOneRound(HouseError):
    """The house is not of one round."""


class NoShare(HouseError):
    """No share below ONE."""


class NotShaped(HouseError):
    """The houses are not shaped alike."""


class NoTable(HouseError):
    """No table by which the house could be blurred."""


class NoNumber(HouseError):
    """No number of the kind that is due."""


class NoMenu(HouseError):
    """No menu of a vault."""


class NoBudget(HouseError):
    """No budget of a vault."""


class NoItem(HouseError):
    """No number of a look of the menu."""


class NotRefused(HouseError):
    """The question is not refused."""


class Stopped(HouseError):
    """The disk lets no more writes."""


class NoWorld(HouseError):
    """No world of the house."""


class NoDisk(HouseError):
    """No disk that a server of the house could have written."""


class NoThrow(HouseError):
    """No throw of the die."""


class NoAnswer(HouseError):
    """A stranger tells no questions: talk is what was asked and answered so far."""

    def __init__(self, talk):
        self.talk = talk


class BadMachine(HouseError):
    """No Machine: part tells what is wrong first."""

    def __init__(self, part):
        self.part = part


class NoMediator(HouseError):
    """No mediator."""


class BadText(HouseError):
    """No text of the kind that is due: line is the number of the first wrong line."""

    def __init__(self, line):
        self.line = line


class NoLine(HouseError):
    """No line that the desk can do."""


class NoName(HouseError):
    """Nothing is kept under the name."""

    def __init__(self, name):
        self.name = name


class NothingDone(HouseError):
    """No line can be taken back."""
