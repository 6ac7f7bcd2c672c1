"""Programs run: the houses that they tell."""

from tellsless.courses import asked_crowd, seen_next, starting
from tellsless.errors import NoInside, TooLarge
from tellsless.houses import MOST_ANSWERS, MOST_ROUNDS, House, made_house
from tellsless.room import Room


def is_inside(program, thing):
    """Whether a thing is a tuple of houses that a program can have inside."""
    if not isinstance(thing, tuple) or len(thing) != program.houses:
        return False
    return all([isinstance(house, House) and house.worlds == program.worlds for house in thing])


def words_of(program, inside, crowd):
    """What a crowd, which is used up, can answer: a dict of words, with the crowds that tell them."""
    words = {}
    untold = [((), crowd)]
    while len(untold) > 0:
        told, going = untold.pop()
        for sign, seen in seen_next(program, inside, going).items():
            kind, number = sign
            if kind == "tell":
                untold.append((told + (number,), seen))
            else:
                words[told + (number,)] = seen
        # Each row that is begun becomes one word at least, so this ends in time.
        if len(words) + len(untold) > MOST_ANSWERS:
            raise TooLarge()
    return words


def question_of(program, inside, crowd, deep, room):
    """The question that a crowd, which is used up, answers behind so many answers."""
    if deep == MOST_ROUNDS:
        raise TooLarge()
    words = words_of(program, inside, crowd)
    room.fill(len(words))
    return tuple([
        (word, words[word].weights(program.worlds), node_behind(program, inside, word, words[word], deep + 1, room))
        for word in sorted(words)
    ])


def node_behind(program, inside, word, crowd, deep, room):
    """The node behind a word that a crowd has told, behind so many answers."""
    return tuple([
        question_of(program, inside, asked_crowd(program, crowd, question), deep, room)
        for question in range(word[-1])
    ])


def house_of(program, inside):
    """The House of what a program tells."""
    if not is_inside(program, inside):
        raise NoInside()
    question = question_of(program, inside, starting(program, inside), 0, Room())
    return made_house(program.worlds, (question,))
