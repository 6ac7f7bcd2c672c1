"""Contests: two machines side by side in one world, and by what rows of questions and words they part.

A STAND is a row with a number for each standing of the first machine, and then for each
of the other one: how often, but for a multiple, one is there behind some questions and
words. A REST is such a row, too: the chance of some questions and words from there
on, below 0 for the other machine. So the product of a stand and a rest is by how much the
chances are unlike. Multiples do not matter, nor do sums: of all rests of one length only
some are kept, of which the others are sums.
"""

from tellsless.ratios import common_bottom, times_whole
from tellsless.spans import Span, are_apart, independent, plain


def triples_of(machine, world, question, begin):
    """All triples of a question in a world, each with its standing ahead; the standings are numbered from begin on."""
    return [
        (begin + standing, word, share, begin + after)
        for standing, questions in enumerate(machine.rows)
        for word, share, after in questions[question][world]
    ]


class Contest:
    """Two machines in one world.

    The levels are the rests, found as far as is asked for: at each length those that are no
    sums of shorter ones.
    """

    def __init__(self, machine, other, world):
        first = len(machine.rows)
        second = len(other.rows)
        self.words = machine.words
        self.outset = [1] + [0] * (first - 1) + [1] + [0] * (second - 1)
        self.moves = {}
        for question in range(len(machine.rows[0])):
            triples = triples_of(machine, world, question, 0) + triples_of(other, world, question, first)
            for word in range(self.words):
                self.moves[(question, word)] = self.moved([triple for triple in triples if triple[1] == word])
        self.span = Span()
        self.levels = [[[1] * first + [-1] * second]]
        self.span.take(self.levels[0][0])

    def moved(self, triples):
        """Where some triples lead, by integers in the place of shares: tuples (standing, parts, standing)."""
        whole = common_bottom([share for _, _, share, _ in triples])
        return [(standing, times_whole(share, whole), after) for standing, _, share, after in triples]

    def grow(self):
        """Finds one more level; tells whether there is any rest on it."""
        found = []
        for row in self.levels[-1]:
            for question, word in self.moves:
                rest = self.back(row, question, word)
                if self.span.take(rest):
                    found.append(rest)
        self.levels.append(found)
        return len(found) > 0

    def is_parting(self):
        """Whether the machines part by a rest on the last level found."""
        return are_apart([self.outset], self.levels[-1])

    def back(self, row, question, word):
        """The rest that begins with a question and a word, and goes on by another one."""
        found = [0] * len(row)
        for standing, parts, after in self.moves[(question, word)]:
            found[standing] += parts * row[after]
        return plain(found)

    def on(self, row, question, word):
        """The stand behind a question and a word, from another one on."""
        found = [0] * len(row)
        for standing, parts, after in self.moves[(question, word)]:
            found[after] += parts * row[standing]
        return plain(found)

    def rests(self, length):
        """Rests of a length, of which all of this length are sums; each shorter one is a sum of such, too."""
        return [row for level in self.levels[:length + 1] for row in level]

    def stands_behind(self, stands, question):
        """The stands behind a question and whatever word, of which all are sums."""
        return independent([self.on(row, question, word) for row in stands for word in range(self.words)])

    def rests_of(self, questions):
        """For each place of a row of questions, and its end, the rests from there on, whatever the words."""
        found = [self.levels[0]]
        for question in questions[::-1]:
            longer = [self.back(row, question, word) for row in found[-1] for word in range(self.words)]
            found.append(independent(longer))
        return found[::-1]


def part_anywhere(stands, rests):
    """Whether in some world some stand and some rest are apart; both are lists with a list for each world."""
    return any([are_apart(rows, others) for rows, others in zip(stands, rests)])


def least_questions(contests, length):
    """The least row of questions of a length behind which some words come with unlike chances."""
    stands = [[contest.outset] for contest in contests]
    questions = []
    for left in reversed(range(length)):
        rests = [contest.rests(left) for contest in contests]
        question = 0
        behind = stands_behind(contests, stands, question)
        while not part_anywhere(behind, rests):
            question += 1
            behind = stands_behind(contests, stands, question)
        questions.append(question)
        stands = behind
    return tuple(questions)


def stands_behind(contests, stands, question):
    """In each world, the stands behind a question and whatever word."""
    return [contest.stands_behind(rows, question) for contest, rows in zip(contests, stands)]


def least_words(contests, questions):
    """The least row of words that comes with unlike chances behind a row of questions."""
    stands = [contest.outset for contest in contests]
    rests = [contest.rests_of(questions) for contest in contests]
    words = []
    for place, question in enumerate(questions):
        left = [rows[place + 1] for rows in rests]
        word = 0
        behind = [contest.on(row, question, word) for contest, row in zip(contests, stands)]
        while not part_anywhere([[row] for row in behind], left):
            word += 1
            behind = [contest.on(row, question, word) for contest, row in zip(contests, stands)]
        words.append(word)
        stands = behind
    return tuple(words)


def least_parting(machine, other):
    """The least of the shortest pairs (questions, words) by which two machines part; None if they never do."""
    contests = [Contest(machine, other, world) for world in range(machine.worlds)]
    length = 0
    while not any([contest.is_parting() for contest in contests]):
        if not any([contest.grow() for contest in contests]):
            return None
        length += 1
    questions = least_questions(contests, length)
    return (questions, least_words(contests, questions))
