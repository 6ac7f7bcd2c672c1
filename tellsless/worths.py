"""Worths of houses for who has to choose a deed, the best askers, and the luck."""

from tellsless.errors import NoAsker, NoGains, NoPrior
from tellsless.ratios import ONE, are_fractions, greatest_of, is_number, is_prior, total
from tellsless.referees import paid_for

MOST_WORLDS = 5


def are_gains(thing, worlds):
    """Whether a thing is gains: a tuple of one or more deeds, each a tuple of a fraction for each world."""
    if not isinstance(thing, tuple) or len(thing) == 0:
        return False
    return all([are_fractions(deed, worlds) for deed in thing])


def is_asker(thing, node, deeds):
    """Whether a thing is an asker at a node, for so many deeds."""
    if not isinstance(thing, tuple) or len(thing) not in (2, 3) or not isinstance(thing[0], str):
        return False
    if len(thing) == 2:
        return thing[0] == "stop" and is_number(thing[1], 0, deeds - 1)
    word, number, askers = thing
    if word != "ask" or not is_number(number, 0, len(node) - 1):
        return False
    if not isinstance(askers, tuple) or len(askers) != len(node[number]):
        return False
    return all([is_asker(asker, answer[2], deeds) for asker, answer in zip(askers, node[number])])


def check_prior(prior, worlds):
    """Raises NoPrior unless a thing is a prior of so many worlds."""
    if not is_prior(prior, worlds):
        raise NoPrior()


def check_gains(gains, worlds):
    """Raises NoGains unless a thing is gains in so many worlds."""
    if not are_gains(gains, worlds):
        raise NoGains()


def gets_at(node, weights, prior, gains, asker):
    """What an asker gets at a node, behind which some weights stand."""
    if asker[0] == "stop":
        return paid_for(prior, weights, gains[asker[1]])
    question = node[asker[1]]
    return total([
        gets_at(answer[2], answer[1], prior, gains, inner)
        for answer, inner in zip(question, asker[2])
    ])


def asker_gets(house, prior, gains, asker):
    """What an asker gets at the tree of a house."""
    check_prior(prior, house.worlds)
    check_gains(gains, house.worlds)
    if not is_asker(asker, house.tree, len(gains)):
        raise NoAsker()
    return gets_at(house.tree, (ONE,) * house.worlds, prior, gains, asker)


def best_stop(weights, prior, gains):
    """A pair: what the best deed gets behind some weights, and the asker who stops with it."""
    got = [paid_for(prior, weights, deed) for deed in gains]
    deed = greatest_of(got)
    return (got[deed], ("stop", deed))


def best_at(node, weights, prior, gains):
    """A pair: the most that an asker gets at a node behind which some weights stand, and one that gets it."""
    ways = [best_stop(weights, prior, gains)]
    for number, question in enumerate(node):
        inner = [best_at(answer[2], answer[1], prior, gains) for answer in question]
        ways.append((total([way[0] for way in inner]), ("ask", number, tuple([way[1] for way in inner]))))
    return ways[greatest_of([way[0] for way in ways])]


def best_way(house, prior, gains):
    """A pair: the worth of a house, and an asker that gets it."""
    check_prior(prior, house.worlds)
    check_gains(gains, house.worlds)
    return best_at(house.tree, (ONE,) * house.worlds, prior, gains)


def worth(house, prior, gains):
    """The most that an asker of a house gets."""
    return best_way(house, prior, gains)[0]


def best_asker(house, prior, gains):
    """An asker of a house that gets the most."""
    return best_way(house, prior, gains)[1]


def worth_unasked(prior, gains):
    """The most that a deed gets if nothing is asked."""
    if not isinstance(prior, tuple) or not 1 <= len(prior) <= MOST_WORLDS:
        raise NoPrior()
    check_prior(prior, len(prior))
    check_gains(gains, len(prior))
    return best_stop((ONE,) * len(prior), prior, gains)[0]


def luck_at(node, weights):
    """A pair: the luck at a node behind which some weights stand, and an asker that gets it; its deeds are worlds."""
    world = greatest_of(weights)
    ways = [(weights[world], ("stop", world))]
    for number, question in enumerate(node):
        inner = [luck_at(answer[2], answer[1]) for answer in question]
        ways.append((total([way[0] for way in inner]), ("ask", number, tuple([way[1] for way in inner]))))
    return ways[greatest_of([way[0] for way in ways])]


def luck(house):
    """The luck of a house."""
    return luck_at(house.tree, (ONE,) * house.worlds)[0]


def luckiest(house):
    """An asker that gets the luck of a house, times what is got unasked, if all worlds have equal chances."""
    return luck_at(house.tree, (ONE,) * house.worlds)[1]
