"""Machines and mediators for several tests, and a second way to reckon what they answer."""

from fractions import Fraction

from tellsless.machines import Machine
from tests.things import ONE, pair, split


def row_of(*triples):
    return tuple(triples)


def steady(worlds, words, *rows):
    """A machine of one standing: for each question, for each world, what comes."""
    return Machine(worlds, words, (tuple(rows),))


def made_up_machine(dice, worlds, words, questions, standings, most=4, great=False):
    """A machine by chance; each row has at most so many triples."""
    def row():
        pairs = [(word, standing) for word in range(words) for standing in range(standings)]
        dice.shuffle(pairs)
        pairs = pairs[:dice.randrange(1, most + 1)]
        shares = split(dice, Fraction(1), len(pairs), great)
        return tuple((word, pair(share), standing) for (word, standing), share in zip(pairs, shares) if share)

    return Machine(worlds, words, tuple(
        tuple(tuple(row() for _ in range(worlds)) for _ in range(questions)) for _ in range(standings)
    ))


def chances(machine, world, length):
    """For each row of questions and of words of a length: the chance of the words."""
    level = {((), ()): {0: Fraction(1)}}
    for _ in range(length):
        longer = {}
        for (questions, words), stands in level.items():
            for question in range(len(machine.rows[0])):
                for word in range(machine.words):
                    behind = {}
                    for standing, weight in stands.items():
                        for told, share, after in machine.rows[standing][question][world]:
                            if told == word:
                                behind[after] = behind.get(after, 0) + weight * Fraction(*share)
                    longer[(questions + (question,), words + (word,))] = behind
        level = longer
    return {key: sum(stands.values()) for key, stands in level.items()}


def made_up_move(dice, machine, words, posts, deep):
    """A move by chance, asks in which are at most so deep."""
    if deep and dice.randrange(4):
        question = dice.randrange(len(machine.rows[0]))
        return ("ask", question, tuple(made_up_move(dice, machine, words, posts, deep - 1) for _ in range(machine.words)))
    return ("tell", dice.randrange(words), dice.randrange(posts))


def made_up_mediator(dice, machine, other, posts, deep=2):
    """A mediator from a machine to another one by chance."""
    return tuple(
        tuple(made_up_move(dice, machine, other.words, posts, deep) for _ in other.rows[0]) for _ in range(posts)
    )


def mediated(machine, mediator, words, world, length):
    """As chances, of who stands before a mediator: reckoned move by move."""
    level = {((), ()): {(0, 0): Fraction(1)}}

    def told_by(move, standing):
        if move[0] == "tell":
            return {(move[1], move[2], standing): Fraction(1)}
        found = {}
        for word, share, after in machine.rows[standing][move[1]][world]:
            for key, weight in told_by(move[2][word], after).items():
                found[key] = found.get(key, 0) + weight * Fraction(*share)
        return found

    for _ in range(length):
        longer = {}
        for (questions, heard), stands in level.items():
            for question in range(len(mediator[0])):
                for word in range(words):
                    longer[(questions + (question,), heard + (word,))] = {}
                for (post, standing), weight in stands.items():
                    for (word, next_post, after), share in told_by(mediator[post][question], standing).items():
                        behind = longer[(questions + (question,), heard + (word,))]
                        behind[(next_post, after)] = behind.get((next_post, after), 0) + weight * share
        level = longer
    return {key: sum(stands.values()) for key, stands in level.items()}


def counter(standings, last=1, words=2):
    """A machine of one world that answers 0 again and again, and by another word once, at its last standing."""
    rows = []
    for standing in range(standings):
        word = last if standing == standings - 1 else 0
        rows.append(((((word, ONE, (standing + 1) % standings),),),))
    return Machine(1, words, tuple(rows))
