"""Orders: what the lines of a desk tell to do.

An ORDER is a tuple (verb, kept, needed, more): the first word; the key under which
something is to be kept, or None; the keys of what is needed, in their order; and what else
the line tells. A KEY is a pair: "house" or "program", and a name.
"""

from tellsless.errors import NoLine
from tellsless.numerals import fraction_of, number_of

LETTERS = "abcdefghijklmnopqrstuvwxyz"
MOST_LETTERS = 8
MOST_FIGURES = 9
MOST_PARTS_FIGURES = 30

# How many names of houses stand behind a verb; whether the first one is of what is to be kept.
PLAIN = {"show": (1, False), "luck": (1, False), "decide": (2, False), "alike": (2, False), "beside": (3, True)}


def is_name(word):
    """Whether a word is a name."""
    return 1 <= len(word) <= MOST_LETTERS and all([letter in LETTERS for letter in word])


def are_names(words):
    """Whether all words are names."""
    return all([is_name(word) for word in words])


def houses_named(names):
    """The keys of houses."""
    return [("house", name) for name in names]


def text_order(verb, rest):
    """The order to keep a house or a program of a text; None if the rest of the line is none."""
    name, _, text = rest.partition(" ")
    if not is_name(name) or text == "":
        return None
    return (verb, (verb, name), [], text)


def plain_order(verb, words):
    """An order that needs nothing but some houses; None if the words are none."""
    many, is_kept = PLAIN[verb]
    if len(words) != many or not are_names(words):
        return None
    if is_kept:
        return (verb, ("house", words[0]), houses_named(words[1:]), None)
    return (verb, None, houses_named(words), None)


def source_order(words):
    """The order to show a program; None if the words are none."""
    if len(words) != 1 or not is_name(words[0]):
        return None
    return ("source", None, [("program", words[0])], None)


def run_order(words):
    """The order to run a program; None if the words are none."""
    if len(words) < 2 or not are_names(words):
        return None
    return ("run", ("house", words[0]), [("program", words[1])] + houses_named(words[2:]), None)


def torn_order(words):
    """The order to tear a house; None if the words are none."""
    if len(words) != 3 or not are_names(words[:2]):
        return None
    times = number_of(words[2], MOST_FIGURES)
    if times is None:
        return None
    return ("torn", ("house", words[0]), houses_named(words[1:2]), times)


def rows_of(words):
    """The rows of fractions, parted by semicolons, that some words are; None if they are none."""
    rows = [[]]
    for word in words:
        if word == ";":
            rows.append([])
        else:
            rows[-1].append(fraction_of(word, MOST_PARTS_FIGURES))
    if any([len(row) == 0 or None in row for row in rows]):
        return None
    return [tuple(row) for row in rows]


def worth_order(words):
    """The order to tell the worth of a house; None if the words are none."""
    rows = rows_of(words[1:])
    if not is_name(words[0]) or rows is None or len(rows) < 2:
        return None
    return ("worth", None, houses_named(words[:1]), (rows[0], tuple(rows[1:])))


READERS = {"source": source_order, "run": run_order, "torn": torn_order, "worth": worth_order}


def order_in(line):
    """The order of a line without line feeds; None if it is none."""
    verb, _, rest = line.partition(" ")
    if line == "undo":
        return ("undo", None, [], None)
    if verb == "house" or verb == "program":
        return text_order(verb, rest)
    if verb in PLAIN:
        return plain_order(verb, rest.split(" "))
    if verb in READERS:
        reader = READERS[verb]
        return reader(rest.split(" "))
    return None


def order_of(line):
    """The order of a line; raises NoLine for what has none."""
    if not isinstance(line, str) or "\n" in line:
        raise NoLine()
    order = order_in(line)
    if order is None:
        raise NoLine()
    return order
