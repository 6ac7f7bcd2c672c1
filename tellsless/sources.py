"""Texts of programs."""

from tellsless.errors import BadText
from tellsless.expressions import MOST_FIGURES, expression_of, expression_words
from tellsless.lines import joined_lines, lines_of
from tellsless.numerals import fraction_of, fraction_text, number_of
from tellsless.programs import Program

MOST_SHARE_FIGURES = 30
HEAD = ("worlds", "cells", "houses")


def row_words(rows):
    """The words of the rows of a toss."""
    return [word for share, value in rows for word in (fraction_text(share), str(value))]


def first_words(statement):
    """The words of the first line of a statement."""
    name = statement[0]
    if name == "set":
        return [name, str(statement[1])] + expression_words(statement[2])
    if name == "toss":
        return [name, str(statement[1])] + row_words(statement[2])
    if name == "hear":
        return [name, str(statement[1])] + expression_words(statement[2]) + [str(statement[3])]
    if name == "ask":
        return [name, str(statement[1]), str(statement[2])]
    if name == "times":
        return [name, str(statement[1])]
    if name == "stop":
        return [name]
    return [name] + expression_words(statement[1])


def statement_lines(statement):
    """The lines of a statement."""
    lines = [" ".join(first_words(statement))]
    if statement[0] == "if":
        return lines + body_lines(statement[2]) + ["else"] + body_lines(statement[3]) + ["end"]
    if statement[0] == "times":
        return lines + body_lines(statement[2]) + ["end"]
    return lines


def body_lines(body):
    """The lines of all statements of a body."""
    lines = []
    for statement in body:
        lines.extend(statement_lines(statement))
    return lines


def program_text(program):
    """The text of a program."""
    head = [
        "worlds " + str(program.worlds),
        "cells " + str(program.cells),
        "houses " + str(program.houses),
    ]
    return joined_lines(head + body_lines(program.body))


def numbered(name, words):
    """The tuple of a name and of numbers; None if the words are none."""
    numbers = [number_of(word, MOST_FIGURES) for word in words]
    if None in numbers:
        return None
    return (name,) + tuple(numbers)


def rows_of(words):
    """The rows of a toss; None if the words are none."""
    if len(words) % 2 != 0:
        return None
    shares = [fraction_of(word, MOST_SHARE_FIGURES) for word in words[::2]]
    values = [number_of(word, MOST_FIGURES) for word in words[1::2]]
    if None in shares or None in values:
        return None
    return tuple(zip(shares, values))


def put_behind(begun, thing):
    """A tuple with a thing behind all others; None if there is no such tuple or thing."""
    if begun is None or thing is None:
        return None
    return begun + (thing,)


def statement_of(line):
    """The statement that a line begins, without its bodies; None if it begins none."""
    words = line.split(" ")
    name = words[0]
    if name == "set":
        return put_behind(numbered(name, words[1:2]), expression_of(words[2:]))
    if name == "toss" and len(words) > 1:
        return put_behind(numbered(name, words[1:2]), rows_of(words[2:]))
    if name == "hear":
        begun = put_behind(numbered(name, words[1:2]), expression_of(words[2:-1]))
        return put_behind(begun, number_of(words[-1], MOST_FIGURES))
    if name == "if" or name == "tell":
        return put_behind((name,), expression_of(words[1:]))
    if (name == "ask" and len(words) == 3) or (name == "times" and len(words) == 2) or line == "stop":
        return numbered(name, words[1:])
    return None


class Scroll:
    """A program that is being read, line by line.

    The bodies are those on the way to the last statement, lists; of each but the first
    one the statement in which it stands is kept, as far as it has been read.
    """

    def __init__(self):
        self.head = []
        self.bodies = [[]]
        self.owners = []

    def put(self, line):
        """Reads a line; tells whether it has a form, and can stand there."""
        if len(self.head) < len(HEAD):
            return self.put_head(line)
        if line == "else":
            return self.put_else()
        if line == "end":
            return self.put_end()
        statement = statement_of(line)
        if statement is None:
            return False
        if statement[0] == "if" or statement[0] == "times":
            self.owners.append(statement)
            self.bodies.append([])
        else:
            self.bodies[-1].append(statement)
        return True

    def put_head(self, line):
        """Reads one of the first lines."""
        name, _, figures = line.partition(" ")
        number = number_of(figures, MOST_FIGURES)
        if name != HEAD[len(self.head)] or number is None:
            return False
        self.head.append(number)
        return True

    def put_else(self):
        """Shuts the first body of an "if", and begins its second one."""
        if len(self.owners) == 0 or self.owners[-1][0] != "if" or len(self.owners[-1]) > 2:
            return False
        self.owners[-1] = self.owners[-1] + (tuple(self.bodies.pop()),)
        self.bodies.append([])
        return True

    def put_end(self):
        """Shuts the last body of a statement."""
        if len(self.owners) == 0 or (self.owners[-1][0] == "if" and len(self.owners[-1]) == 2):
            return False
        statement = self.owners.pop() + (tuple(self.bodies.pop()),)
        self.bodies[-1].append(statement)
        return True

    def lacks_lines(self):
        """Whether there have to be more lines."""
        return len(self.head) < len(HEAD) or len(self.owners) > 0

    def program(self):
        """The Program, when all lines are read."""
        return Program(self.head[0], self.head[1], self.head[2], tuple(self.bodies[0]))


def read_program(text):
    """The Program of a text."""
    lines, rest = lines_of(text)
    scroll = Scroll()
    for number, line in enumerate(lines):
        if not scroll.put(line):
            raise BadText(number + 1)
    if rest != "" or scroll.lacks_lines():
        raise BadText(len(lines) + 1)
    return scroll.program()
