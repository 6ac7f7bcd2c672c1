"""Strangers: functions that tell what can be asked, talk by talk; and the houses that they are."""

from tellsless.errors import NoAnswer, NoNumber
from tellsless.houses import made_house
from tellsless.ratios import ONE, are_chances, is_number, multiplied_weights, total_weights
from tellsless.room import Room
from tellsless.trees import MOST_ON_A_WAY, MOST_QUESTIONS, MOST_WORDS, is_ascending, is_word


def is_telling(thing, worlds):
    """Whether a thing is a pair of a word and a chance for each world."""
    if not isinstance(thing, tuple) or len(thing) != 2:
        return False
    return is_word(thing[0]) and are_chances(thing[1], worlds)


def is_told_question(thing, worlds):
    """Whether a thing is a question as a stranger has to tell it."""
    if not isinstance(thing, tuple) or not 1 <= len(thing) <= MOST_WORDS:
        return False
    if not all([is_telling(pair, worlds) for pair in thing]):
        return False
    if not is_ascending([pair[0] for pair in thing]):
        return False
    return total_weights([pair[1] for pair in thing], worlds) == (ONE,) * worlds


def is_told(thing, worlds):
    """Whether a thing is what a stranger has to tell."""
    if not isinstance(thing, tuple) or len(thing) > MOST_QUESTIONS:
        return False
    return all([is_told_question(question, worlds) for question in thing])


class Hearing:
    """A stranger who is being heard, for so many rounds."""

    def __init__(self, worlds, stranger, rounds):
        self.worlds = worlds
        self.stranger = stranger
        self.rounds = rounds
        self.room = Room()

    def node(self, talk, weights):
        """The node behind a talk, and behind some weights."""
        if len(talk) == self.rounds:
            return ()
        stranger = self.stranger
        told = stranger(talk)
        if not is_told(told, self.worlds):
            raise NoAnswer(talk)
        self.room.fill(sum([len(question) for question in told]))
        return tuple([
            tuple([
                self.answer(talk + ((number, word),), multiplied_weights(weights, chances))
                for word, chances in question
            ])
            for number, question in enumerate(told)
        ])

    def answer(self, talk, weights):
        """The answer at the end of a talk, with some weights."""
        return (talk[len(talk) - 1][1], weights, self.node(talk, weights))


def heard(worlds, stranger, rounds):
    """The House that a stranger is, as far as so many rounds."""
    if not is_number(worlds, 1, 5) or not is_number(rounds, 0, MOST_ON_A_WAY):
        raise NoNumber()
    hearing = Hearing(worlds, stranger, rounds)
    return made_house(worlds, hearing.node((), (ONE,) * worlds))
