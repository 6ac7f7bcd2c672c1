"""Es as they are written, each ahead of its own Es."""

from tellsless.numerals import number_of

MOST_FIGURES = 9

SIGNS = {"plus": "+", "times": "*", "same": "=", "less": "<"}
WORDS = {"+": "plus", "*": "times", "=": "same", "<": "less"}


def expression_words(expression):
    """The words of an E."""
    if expression[0] == "cell":
        return ["c" + str(expression[1])]
    if expression[0] == "number":
        return [str(expression[1])]
    return [SIGNS[expression[0]]] + expression_words(expression[1]) + expression_words(expression[2])


def simple_expression(word):
    """The E that a word alone is; None if it is none."""
    if word.startswith("c"):
        name = "cell"
        number = number_of(word.removeprefix("c"), MOST_FIGURES)
    else:
        name = "number"
        number = number_of(word, MOST_FIGURES)
    if number is None:
        return None
    return (name, number)


def expression_of(words):
    """The E that some words are; None if they are none.

    They are read from the last one on: so an E can be as deep as it likes.
    """
    found = []
    for word in words[::-1]:
        if word not in WORDS:
            found.append(simple_expression(word))
        elif len(found) < 2:
            return None
        else:
            first = found.pop()
            found.append((WORDS[word], first, found.pop()))
        if found[-1] is None:
            return None
    if len(found) != 1:
        return None
    return found[0]
