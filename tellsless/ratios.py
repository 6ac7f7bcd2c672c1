"""Integers and fractions: judged, and reckoned with exactly."""

from math import gcd, lcm

NOUGHT = (0, 1)
ONE = (1, 1)


def is_integral(thing):
    """Whether a thing is an integer, which a flag is not."""
    return isinstance(thing, int) and not isinstance(thing, bool)


def is_number(thing, least, most):
    """Whether a thing is an integer from least to most."""
    return is_integral(thing) and least <= thing <= most


def is_fraction(thing):
    """Whether a thing is a fraction in lowest terms."""
    if not isinstance(thing, tuple) or len(thing) != 2:
        return False
    top, bottom = thing
    return is_integral(top) and is_integral(bottom) and bottom >= 1 and gcd(top, bottom) == 1


def is_chance(thing):
    """Whether a thing is a fraction from NOUGHT to ONE."""
    return is_fraction(thing) and 0 <= thing[0] <= thing[1]


def is_share(thing):
    """Whether a thing is a chance above NOUGHT."""
    return is_chance(thing) and thing[0] > 0


def are_shares(things):
    """Whether the things of a list or tuple are shares of a whole."""
    return all([is_share(thing) for thing in things]) and total(things) == ONE


def are_fractions(thing, many):
    """Whether a thing is a tuple of so many fractions."""
    if not isinstance(thing, tuple) or len(thing) != many:
        return False
    return all([is_fraction(fraction) for fraction in thing])


def are_chances(thing, many):
    """Whether a thing is a tuple of so many chances."""
    if not isinstance(thing, tuple) or len(thing) != many:
        return False
    return all([is_chance(chance) for chance in thing])


def is_prior(thing, worlds):
    """Whether a thing is a tuple of a chance for each world, adding up to ONE."""
    return are_chances(thing, worlds) and total(thing) == ONE


def are_nought(weights):
    """Whether all weights are NOUGHT."""
    return all([weight == NOUGHT for weight in weights])


def reduced(top, bottom):
    """The fraction that stands for top divided by bottom, the bottom being above 0."""
    common = gcd(top, bottom)
    return (top // common, bottom // common)


def added(first, second):
    """The sum of two fractions."""
    return reduced(first[0] * second[1] + second[0] * first[1], first[1] * second[1])


def multiplied(first, second):
    """The product of two fractions."""
    return reduced(first[0] * second[0], first[1] * second[1])


def less(fraction):
    """A fraction with the other sign."""
    return (-fraction[0], fraction[1])


def divided(first, second):
    """The first fraction divided by the second one, which is above NOUGHT."""
    return reduced(first[0] * second[1], first[1] * second[0])


def is_less(first, second):
    """Whether the first fraction is less than the second one."""
    return first[0] * second[1] < second[0] * first[1]


def greatest_of(fractions):
    """The number of the greatest fraction of a list or tuple that is not empty; of equal ones, of the first."""
    best = 0
    for number, fraction in enumerate(fractions):
        if is_less(fractions[best], fraction):
            best = number
    return best


def common_bottom(fractions):
    """The least number that is a multiple of the bottoms of all fractions."""
    bottom = 1
    for fraction in fractions:
        bottom = lcm(bottom, fraction[1])
    return bottom


def times_whole(fraction, whole):
    """The integer that is a fraction times a multiple of its bottom."""
    return fraction[0] * (whole // fraction[1])


def total(fractions):
    """The sum of all fractions of a list or tuple, put in lowest terms once alone."""
    whole = common_bottom(fractions)
    return reduced(sum([times_whole(fraction, whole) for fraction in fractions]), whole)


def added_weights(first, second):
    """The sums, world by world, of two tuples of weights."""
    return tuple([added(one, other) for one, other in zip(first, second)])


def multiplied_weights(first, second):
    """The products, world by world, of two tuples of weights."""
    return tuple([multiplied(one, other) for one, other in zip(first, second)])


def scaled_weights(share, weights):
    """The products, world by world, of a fraction and a tuple of weights."""
    return tuple([multiplied(share, weight) for weight in weights])


def total_weights(rows, worlds):
    """The sums, world by world, of all tuples of weights of a list or tuple."""
    return tuple([total([weights[world] for weights in rows]) for world in range(worlds)])
