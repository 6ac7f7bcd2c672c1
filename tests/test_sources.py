"""[13.2]: texts of programs."""

import random
import re
import unittest

from tellsless.errors import BadProgram, BadText
from tellsless.houses import begun, hopeful
from tellsless.programs import Program
from tellsless.running import house_of
from tellsless.sources import program_text, read_program
from tellsless.speaking import spoken
from tests.test_running import Maker
from tests.test_texts import fraction_of
from tests.things import COIN, HALF, made_up_house, rearranged, strange, with_other_signs

BODY = (
    ("set", 0, ("plus", ("number", 12), ("times", ("cell", 1), ("less", ("cell", 0), ("same", ("number", 0), ("cell", 2)))))),
    ("toss", 2, (((1, 3), 7), ((1, 6), 0), (HALF, 99))),
    ("if", ("cell", 1), (("tell", ("number", 4)), ("if", ("number", 1), (), (("stop",),))), (("times", 3, (("ask", 1, 5),)),)),
    ("times", 0, ()),
    ("hear", 1, ("less", ("cell", 0), ("number", 5)), 2),
    ("toss", 0, (((1, 1), 5),)),
    ("ask", 0, 1),
    ("stop",),
)
PROGRAM = Program(5, 3, 2, BODY)
TEXT = """worlds 5
cells 3
houses 2
set 0 + 12 * c1 < c0 = 0 c2
toss 2 1/3 7 1/6 0 1/2 99
if c1
tell 4
if 1
else
stop
end
else
times 3
ask 1 5
end
end
times 0
end
hear 1 < c0 5 2
toss 0 1 5
ask 0 1
stop
"""
HEAD = "worlds 1\ncells 6\nhouses 3\n"
N = "(?:0|[1-9][0-9]{0,8})"
SHARE = "(-?(?:0|[1-9][0-9]{0,29})(?:/(?:0|[1-9][0-9]{0,29}))?)"
WORDS = {"+": "plus", "*": "times", "=": "same", "<": "less"}


class Bad(Exception):
    pass


def expression_of(words):
    """The E at the begin of some words, which are taken away."""
    if not words:
        raise Bad()
    word = words.pop(0)
    if word in WORDS:
        first = expression_of(words)
        return (WORDS[word], first, expression_of(words))
    if re.fullmatch("c" + N, word):
        return ("cell", int(word[1:]))
    if re.fullmatch(N, word):
        return ("number", int(word))
    raise Bad()


def whole_expression(text):
    words = text.split(" ")
    found = expression_of(words)
    if words:
        raise Bad()
    return found


def statement_of(line):
    """The statement that a line begins, without bodies."""
    if line == "stop":
        return ("stop",)
    if match := re.fullmatch(f"set ({N}) (.*)", line):
        return ("set", int(match[1]), whole_expression(match[2]))
    if match := re.fullmatch(f"toss ({N})((?: {SHARE} {N})*)", line):
        words = match[2].split()
        rows = tuple((fraction_of(words[at]), int(words[at + 1])) for at in range(0, len(words), 2))
        if None not in [share for share, _ in rows]:
            return ("toss", int(match[1]), rows)
    if match := re.fullmatch("(if|tell) (.*)", line):
        return (match[1], whole_expression(match[2]))
    if match := re.fullmatch(f"times ({N})", line):
        return ("times", int(match[1]))
    if match := re.fullmatch(f"ask ({N}) ({N})", line):
        return ("ask", int(match[1]), int(match[2]))
    if match := re.fullmatch(f"hear ({N}) (.*) ({N})", line):
        return ("hear", int(match[1]), whole_expression(match[2]), int(match[3]))
    raise Bad()


def judged(text):
    """What read_program has to tell: ("text", line), ("program", part), or ("right", program)."""
    lines = text.split("\n")
    rest = lines.pop()
    at = 0

    def body_until(ends):
        nonlocal at
        body = []
        while at < len(lines) and lines[at] not in ends:
            statement = statement_of(lines[at])
            at += 1
            if statement[0] == "if":
                statement += (body_until(("else",)),)
                at += 1
                statement += (body_until(("end",)),)
                at += 1
            if statement[0] == "times":
                statement += (body_until(("end",)),)
                at += 1
            body.append(statement)
        if at >= len(lines) and ends:
            raise EOFError
        return tuple(body)

    try:
        head = []
        for name in ("worlds", "cells", "houses"):
            if at >= len(lines):
                raise EOFError
            match = re.fullmatch(f"{name} ({N})", lines[at])
            if not match:
                raise Bad()
            head.append(int(match[1]))
            at += 1
        body = body_until(())
    except Bad:
        return ("text", at + 1)
    except EOFError:
        return ("text", len(lines) + 1)
    if rest:
        return ("text", len(lines) + 1)
    try:
        return ("right", Program(*head, body))
    except BadProgram as error:
        return ("program", error.part)


def found(text):
    """What read_program tells of a text, as judged does."""
    try:
        return ("right", read_program(text))
    except BadText as error:
        return ("text", error.line)
    except BadProgram as error:
        return ("program", error.part)


class ProgramText(unittest.TestCase):
    def test_line_by_line(self):
        self.assertEqual(program_text(PROGRAM), TEXT)
        self.assertEqual(program_text(Program(1, 1, 0, ())), "worlds 1\ncells 1\nhouses 0\n")

    def test_it_is_read_again(self):
        self.assertEqual(read_program(TEXT), PROGRAM)
        for seed in range(300):
            program = Maker(seed).program()
            self.assertEqual(read_program(program_text(program)), program)
            self.assertEqual(judged(program_text(program)), ("right", program))

    def test_programs_that_houses_were_told_back_as(self):
        for seed in range(20):
            house = made_up_house(random.Random(seed), 2, 3, 2, 2)
            program = spoken(house)
            again = read_program(program_text(program))
            self.assertEqual(again, program)
            self.assertEqual(house_of(again, ()), begun(hopeful(house)))

    def test_the_deepest(self):
        expression = ("cell", 5)
        for number in range(7):
            expression = ("plus", expression, ("number", number))
        body = (("tell", expression),)
        for number in range(39):
            body = (("times", number % 7, body),) if number % 2 else (("if", ("cell", 0), (), body),)
        program = Program(1, 6, 0, body)
        self.assertEqual(read_program(program_text(program)), program)
        program = Program(1, 1, 0, (("stop",),) * 2000)
        self.assertEqual(read_program(program_text(program)), program)


class ReadProgram(unittest.TestCase):
    def bad(self, line, text):
        self.assertEqual(found(text), ("text", line), text)
        self.assertEqual(judged(text), ("text", line), text)

    def test_what_is_no_string(self):
        for thing in strange():
            if type(thing) is not str:
                with self.assertRaises(BadText) as caught:
                    read_program(thing)
                self.assertEqual(caught.exception.line, 0)

    def test_lines_that_lack(self):
        self.bad(1, "")
        self.bad(2, "worlds 1\n")
        self.bad(3, "worlds 1\ncells 1\n")
        self.bad(1, "worlds 1")
        self.bad(3, "worlds 1\ncells 1\nhouses 0")
        self.bad(5, HEAD + "times 1\n")
        self.bad(6, HEAD + "times 1\nstop\n")
        self.bad(5, HEAD + "if 1\n")
        self.bad(6, HEAD + "if 1\nelse\n")
        self.bad(7, HEAD + "if 1\nelse\nstop\n")
        self.bad(7, HEAD + "times 1\ntimes 1\nend\n")

    def test_what_stands_behind_the_last_line_feed(self):
        for rest in ("x", " ", "stop", "end"):
            self.bad(23, TEXT + rest)
            self.bad(4, HEAD + rest)
        self.bad(22, TEXT[:-1])

    def test_the_first_lines(self):
        lines = HEAD.split("\n")[:3]
        for place, name in enumerate(("worlds", "cells", "houses")):
            for line in ("", name, name + " ", f" {name} 1", f"{name} 1 ", f"{name}  1", f"{name} 01", f"{name} -1", f"{name} x",
                         f"{name} 1 1", f"{name} 1/2", f"{name} " + "1" * 10, "stop", lines[(place + 1) % 3], name.title() + " 1"):
                row = list(lines)
                row[place] = line
                self.bad(place + 1, "\n".join(row) + "\n")
                self.bad(place + 1, "\n".join(row[:place + 1]) + "\n")
            row = list(lines)
            row[place] = name + " " + "9" * 9
            self.assertEqual(found("\n".join(row) + "\n"), ("program", (name,)))

    def test_forms_of_lines(self):
        for line in (
            "", " ", "set", "set 0", "set 0 ", "set 0 1 ", "set 0  1", " set 0 1", "set c0 1", "set 0 x", "set 0 c", "set 0 c01",
            "set 0 01", "set 0 +", "set 0 + 1", "set 0 + 1 2 3", "set 0 1 2", "set 0 + + 1 2", "set 0 ++ 1 2", "set 0 - 1 2",
            "set 0 plus 1 2", "set 0 C1", "set 0 -1", "set 0 + 1  2", "set 00 1", "set -1 1", "set 1", "set 0 > 1 2", "set 0 1/2",
            "set 0 " + "1" * 10, "set 0 c" + "1" * 10, "set " + "1" * 10 + " 1", "set 0 +1 2",
            "toss", "toss ", "toss x", "toss 0 1", "toss 0 1/2 1 1/2", "toss 0 1/2", "toss 0 2/4 1 1/2 2", "toss 0 1/1 1", "toss 0 1 c1",
            "toss 0 1 1/2", "toss 0  1 1", "toss 0 1 1 ", "toss 0 1 01", "toss 00 1 1", "toss 0 1 " + "1" * 10, "toss 0 -0 1",
            "toss 0 " + "1" * 31 + " 1", "toss 0 1/" + "1" * 31 + " 1", "toss " + "1" * 10 + " 1 1", "toss 0 1 -1", "toss c0 1 1",
            "if", "if ", "if 1 2", "if x", "if  1", "if 1 ", "if c", "if + 1", "If 1", "if 1 else",
            "times", "times ", "times 1 2", "times c0", "times -1", "times 01", "times  1", "times 1 ", "times " + "1" * 10, "times 1/2",
            "tell", "tell ", "tell 1 2", "tell x", "tell  1", "tell 1 ", "tell c", "tell < 1", "tell 1,2", "tell " + "1" * 10,
            "ask", "ask 0", "ask 0 1 2", "ask c0 1", "ask 0 c1", "ask 0  1", "ask 0 1 ", "ask 0 01", "ask 0 " + "1" * 10, "ask -1 1",
            "hear", "hear 0", "hear 0 1", "hear 0 1 2 3", "hear 0 c0 c1", "hear c0 1 1", "hear 0  1 1", "hear 0 1 1 ", "hear 0 + 1 1",
            "hear 0 + 1 1 1 1", "hear 0 1 01", "hear 00 1 1", "hear 0 1 " + "1" * 10, "hear 0 x 1", "hear 0 + 1",
            "stop ", " stop", "stop 1", "Stop", "STOP", "end ", "else ", " end", "End", "ende", "worlds 1", "cells 1", "houses 1", "say 1",
        ):
            self.bad(4, HEAD + line + "\n")
            self.bad(6, HEAD + "stop\ntimes 1\n" + line + "\nend\n")
            self.bad(6, HEAD + "if 1\nelse\n" + line + "\nend\n")

    def test_lines_that_cannot_stand_there(self):
        for line in ("else", "end"):
            self.bad(4, HEAD + line + "\n")
            self.bad(5, HEAD + "stop\n" + line + "\n")
            self.bad(6, HEAD + "times 1\nend\n" + line + "\n")
            self.bad(7, HEAD + "if 1\nelse\nend\n" + line + "\n")
        self.bad(5, HEAD + "times 1\nelse\nend\n")
        self.bad(5, HEAD + "if 1\nend\n")
        self.bad(6, HEAD + "if 1\nelse\nelse\nend\n")
        self.bad(6, HEAD + "if 1\ntimes 1\nelse\nend\nend\n")
        self.bad(7, HEAD + "if 1\ntimes 1\nend\nend\n")
        self.assertEqual(found(HEAD + "if 1\ntimes 1\nend\nelse\nend\n")[0], "right")

    def test_lines_of_the_form_that_no_program_has(self):
        for line in (
            "set 6 1", "set 0 c6", "set 0 100", "set 0 + 1 c6", "set " + "9" * 9 + " 1", "set 0 c" + "9" * 9, "set 0 " + "9" * 9,
            "toss 6 1 1", "toss 0", "toss 0 1 100", "toss 0 1/2 1", "toss 0 0 1 1 2", "toss 0 -1 1 2 2", "toss 0 1 " + "9" * 9,
            "toss 0 " + "9" * 30 + " 1", "toss 0 1/" + "9" * 30 + " 1", "toss 0" + " 1/13 1" * 13, "toss 0 2 1 -1 1",
            "tell c6", "tell 100", "ask 6 1", "ask 0 0", "ask 0 6", "hear 3 1 1", "hear 0 1 6", "hear 0 c6 1", "hear 0 100 1",
            "tell " + "+ 1 " * 8 + "1", "tell " + "+ " * 8 + "1 " * 8 + "1",
        ):
            self.assertEqual(found(HEAD + line + "\n"), ("program", ("statement", 0)), line)
            self.assertEqual(found(HEAD + "stop\nif 1\nstop\nelse\n" + line + "\nend\nstop\n"), ("program", ("statement", 3)), line)
        for line in ("times 7", "times " + "9" * 9, "times 100"):
            self.assertEqual(found(HEAD + line + "\nend\n"), ("program", ("statement", 0)))
        for line in ("if c6", "if 100"):
            self.assertEqual(found(HEAD + line + "\nelse\nend\n"), ("program", ("statement", 0)))
        self.assertEqual(found("worlds 6\ncells 7\nhouses 4\ntell 100\n"), ("program", ("worlds",)))
        self.assertEqual(found("worlds 1\ncells 7\nhouses 4\ntell 100\n"), ("program", ("cells",)))
        self.assertEqual(found("worlds 1\ncells 1\nhouses 4\ntell 100\n"), ("program", ("houses",)))
        self.assertEqual(found(HEAD + "stop\n" * 2001), ("program", ("body",)))

    def test_great_figures(self):
        bottom = 10 ** 30 - 1
        text = HEAD + f"toss 0 1/{bottom} 1 {bottom - 1}/{bottom} 2\n"
        self.assertEqual(program_text(read_program(text)), text)

    def test_deep_texts(self):
        for deep, part in ((38, None), (39, None), (40, ("body",)), (41, ("body",)), (1600, ("body",))):
            text = HEAD + "times 0\n" * deep + "end\n" * deep
            if part is None:
                self.assertEqual(found(text)[0], "right")
            else:
                self.assertEqual(found(text), ("program", part))
            self.assertEqual(found(HEAD + "times 0\n" * deep + "ask 0 6\n" + "end\n" * deep), ("program", ("statement", deep)))
        text = HEAD + "if 0\n" * 1100 + "else\nend\n" * 1100
        self.assertEqual(found(text), ("program", ("body",)))
        self.assertEqual(found(HEAD + "if 0\nelse\n" * 1200 + "end\n" * 1200), ("program", ("body",)))
        self.assertEqual(found(HEAD + "tell " + "+ " * 4900 + "1 " * 4900 + "1\n"), ("program", ("statement", 0)))
        self.assertEqual(found(HEAD + "tell " + "+ 1 " * 4900 + "1\n"), ("program", ("statement", 0)))
        self.assertEqual(found(HEAD + "tell " + "+ " * 9000 + "1\n"), ("text", 4))

    def test_lines_left_out_twice_or_exchanged(self):
        for text in rearranged(TEXT):
            self.assertEqual(found(text), judged(text), text)

    def test_all_signs(self):
        for text in with_other_signs(TEXT):
            self.assertEqual(found(text), judged(text), text)

    def test_texts_by_chance(self):
        kinds = set()
        for seed in range(2000):
            dice = random.Random(seed)
            lines = program_text(Maker(seed).program()).split("\n")
            for _ in range(dice.randrange(1, 4)):
                place = dice.randrange(len(lines))
                words = lines[place].split(" ")
                words[dice.randrange(len(words))] = dice.choice((
                    "0", "1", "c1", "1/2", "+", "<", "2", "", "if", "-1/2", "end", "else", "stop", "2/4", "100", "toss",
                ))
                lines[place] = " ".join(words)
            text = "\n".join(lines)
            kinds.add(found(text)[0])
            self.assertEqual(found(text), judged(text), text)
        self.assertEqual(kinds, {"right", "text", "program"})

    def test_what_a_text_tells_runs(self):
        program = read_program("worlds 2\ncells 2\nhouses 1\nhear 0 0 1\ntell c1\n")
        self.assertEqual([answer[0] for answer in house_of(program, (COIN,)).tree[0]], [(0, 0), (1, 0)])


if __name__ == "__main__":
    unittest.main()
