"""The main fact: a go-between that makes the other house, or a paper against it; just one of both is there."""

from tellsless.accusing import accusing
from tellsless.dealing import Dealer
from tellsless.errands import Errand, errands_of
from tellsless.grounds import Ground
from tellsless.houses import check_alike
from tellsless.mixing import best_mixture
from tellsless.plans import passing
from tellsless.prices import prices
from tellsless.ratios import NOUGHT


def amounts_of(errand, mixture):
    """How much of what is done where, as a dealer takes it."""
    found = {}
    for entry, amount in mixture.mixed().items():
        if amount != NOUGHT:
            turn, doing = entry
            question, place = errand.turns[turn]
            path, number = errand.places[question]
            word, which, _, _ = errand.doings[turn][doing]
            found.setdefault((path, number, place), {})[(word, which)] = amount
    return found


def outcome(errand):
    """What comes of an errand: a pair of the amounts by which it is done and of None, or of None and of rates."""
    if errand.begin is None:
        return (None, [0] * len(errand.targets))
    mixture = best_mixture(errand)
    if mixture.against is None:
        return (amounts_of(errand, mixture), None)
    return (None, mixture.against)


def outcomes(ground, other):
    """What comes of all errands to another house from a ground, one after another, until one fails.

    A triple: all amounts; the errand that fails; its rates. None stands for what is not there.
    """
    amounts = {}
    for path, number, question in errands_of(ground, (), other.tree):
        errand = Errand(ground, path, number, question)
        done, rates = outcome(errand)
        if done is None:
            return (None, errand, rates)
        for key, doings in done.items():
            amounts[key] = doings
    return (amounts, None, None)


def decided(house, other):
    """("between", go-between) that makes the other house, or ("against", test, prices), a paper against the house."""
    check_alike(house, other)
    if house == other:
        return ("between", passing(house))
    ground = Ground(house)
    amounts, errand, rates = outcomes(ground, other)
    if errand is None:
        return ("between", Dealer(house, other, ground, amounts).deal())
    test = accusing(other, errand, rates)
    return ("against", test, prices(house, other, test))


def can_stand(house, other):
    """Whether a house can stand for another one."""
    check_alike(house, other)
    if house == other:
        return True
    return outcomes(Ground(house), other)[1] is None


def are_alike(house, other):
    """Whether each of two houses can stand for the other."""
    return can_stand(house, other) and can_stand(other, house)
