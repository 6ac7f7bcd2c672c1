"""Texts of houses."""

from tellsless.errors import BadText
from tellsless.houses import House
from tellsless.lines import joined_lines, lines_of
from tellsless.numerals import fraction_of, fraction_text, number_of

MOST_FIGURES = 30


def word_text(word):
    """A word as it is written."""
    if len(word) == 0:
        return "-"
    return ",".join([str(number) for number in word])


def node_lines(node, dots):
    """The lines of all answers at and behind a node."""
    found = []
    for number, question in enumerate(node):
        for word, weights, behind in question:
            words = [dots + str(number), word_text(word)] + [fraction_text(weight) for weight in weights]
            found.append(" ".join(words))
            found.extend(node_lines(behind, dots + "."))
    return found


def house_text(house):
    """The text of a house."""
    return joined_lines(["worlds " + str(house.worlds)] + node_lines(house.tree, ""))


def word_of(text):
    """The word that a text is; None if it is none as it is written."""
    if text == "-":
        return ()
    numbers = [number_of(part, MOST_FIGURES) for part in text.split(",")]
    if None in numbers:
        return None
    return tuple(numbers)


def answer_of(line):
    """What the line of an answer tells: how many dots, the question, the word and the weights; None if it is none."""
    parts = line.split(" ")
    if len(parts) < 2:
        return None
    figures = parts[0].lstrip(".")
    question = number_of(figures, MOST_FIGURES)
    word = word_of(parts[1])
    weights = [fraction_of(part, MOST_FIGURES) for part in parts[2:]]
    if question is None or word is None or None in weights:
        return None
    return (len(parts[0]) - len(figures), question, word, tuple(weights))


def worlds_of(line):
    """The number of worlds that a line tells; None if it tells none."""
    if not line.startswith("worlds "):
        return None
    return number_of(line.removeprefix("worlds "), MOST_FIGURES)


def closed(node):
    """A node of lists as a node of tuples."""
    return tuple([tuple([tuple(answer) for answer in question]) for question in node])


class Reading:
    """A tree that is being read, answer by answer: the nodes on the way to the last one, made of lists."""

    def __init__(self):
        self.nodes = []

    def put(self, dots, question, word, weights):
        """Puts an answer behind as many as there are dots; tells whether it can stand there."""
        if dots > len(self.nodes):
            return False
        while len(self.nodes) > dots + 1:
            self.shut()
        if len(self.nodes) == dots:
            self.nodes.append([])
        node = self.nodes[-1]
        if question == len(node):
            node.append([])
        elif question != len(node) - 1:
            return False
        node[question].append([word, weights, ()])
        return True

    def shut(self):
        """Puts the last node behind the last answer of the one ahead of it."""
        node = closed(self.nodes.pop())
        self.nodes[-1][-1][-1][2] = node

    def grown(self):
        """The tree, when all answers are put."""
        if len(self.nodes) == 0:
            return ()
        while len(self.nodes) > 1:
            self.shut()
        return closed(self.nodes[0])


def read_house(text):
    """The House of a text."""
    lines, rest = lines_of(text)
    reading = Reading()
    worlds = None
    for number, line in enumerate(lines):
        if number == 0:
            worlds = worlds_of(line)
            is_right = worlds is not None
        else:
            answer = answer_of(line)
            is_right = answer is not None and reading.put(*answer)
        if not is_right:
            raise BadText(number + 1)
    if rest != "" or len(lines) == 0:
        raise BadText(len(lines) + 1)
    return House(worlds, reading.grown())
