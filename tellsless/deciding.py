"""The main fact: a go-between that makes the other house, or a paper against it; just one of both is there."""

from tellsless.accusing import accusing
from tellsless.dealing import Dealer
from tellsless.errands import Errand, errands_of
from tellsless.figures import whole_figures
from tellsless.grounds import Ground
from tellsless.houses import check_alike
from tellsless.plans import passing
from tellsless.prices import prices
from tellsless.ratios import NOUGHT, divided
from tellsless.refuting import Refuting
from tellsless.settling import settled_amounts

FIRST_BITS = 256
MOST_STEPS = 40


def outcome(errand):
    """What comes of an errand: a pair (amounts, None) by which it is done, or (None, rates) at which it fails.

    The amounts are a pair: those of all entries, and the whole of which they are parts.
    """
    if errand.begin is None:
        return (None, [NOUGHT] * len(errand.targets))
    bits = FIRST_BITS
    steps = MOST_STEPS * (1 + len(errand.targets))
    while True:
        refuting = Refuting(errand, bits)
        refuting.run(steps)
        if refuting.against is not None:
            return (None, [divided((rate, 1), target) for rate, target in zip(refuting.against, errand.targets)])
        if refuting.mixture.is_met():
            found = settled_amounts(refuting.mixture, whole_figures(errand))
            if found is not None:
                return (found, None)
        # Rounding led astray.
        bits = 4 * bits
        steps = 4 * steps


def outcomes(ground, other):
    """What comes of all errands to another house from a ground, one after another, until one fails.

    A triple: pairs of all errands and their amounts; the errand that fails; its rates.
    None stands for what is not there.
    """
    done = []
    for path, number, question in errands_of(ground, (), other.tree):
        errand = Errand(ground, path, number, question)
        found, rates = outcome(errand)
        if found is None:
            return (None, errand, rates)
        done.append((errand, found))
    return (done, None, None)


def dealt(house, other, ground, done):
    """The go-between from a house to another one that does all errands by the amounts that were found."""
    dealer = Dealer(house, other, ground)
    for errand, (found, whole) in done:
        dealer.put(errand.amounts_of(found), whole)
    return dealer.deal()


def decided(house, other):
    """("between", go-between) that makes the other house, or ("against", test, prices), a paper against the house."""
    check_alike(house, other)
    if house == other:
        return ("between", passing(house))
    ground = Ground(house)
    done, errand, rates = outcomes(ground, other)
    if errand is None:
        return ("between", dealt(house, other, ground, done))
    test = accusing(other, errand, rates)
    return ("against", test, prices(house, other, test))


def can_stand(house, other):
    """Whether a house can stand for another one."""
    check_alike(house, other)
    if house == other:
        return True
    return outcomes(Ground(house), other)[1] is None


def are_alike(house, other):
    """Whether each of two houses can stand for the other."""
    return can_stand(house, other) and can_stand(other, house)
