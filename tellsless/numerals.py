"""Numbers and fractions as they are written."""

from math import gcd

DIGITS = "0123456789"


def is_numeral(text, most):
    """Whether a text is a number of at most so many figures, without needless zeros."""
    if not 1 <= len(text) <= most or not all([sign in DIGITS for sign in text]):
        return False
    return text == "0" or text[0] != "0"


def number_of(text, most):
    """The number that a text is, of at most so many figures; None if it is none."""
    if not is_numeral(text, most):
        return None
    return int(text)


def fraction_text(fraction):
    """A fraction as it is written."""
    if fraction[1] == 1:
        return str(fraction[0])
    return str(fraction[0]) + "/" + str(fraction[1])


def fraction_of(text, most):
    """The fraction that a text is, of numbers of at most so many figures; None if it is none as it is written."""
    top, slash, bottom = text.partition("/")
    sign = 1
    if top.startswith("-") and top != "-0":
        sign = -1
        top = top[1:]
    if not is_numeral(top, most):
        return None
    if slash == "":
        return (sign * int(top), 1)
    if not is_numeral(bottom, most) or int(bottom) < 2 or gcd(int(top), int(bottom)) != 1:
        return None
    return (sign * int(top), int(bottom))
