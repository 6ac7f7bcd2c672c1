"""[13.1]: texts of houses."""

import random
import re
import unittest
from math import gcd

from tellsless.errors import BadHouse, BadText
from tellsless.houses import House, begun, made_house, paths
from tellsless.rooms import beside
from tellsless.tearing import torn
from tellsless.texts import house_text, read_house
from tests.things import CLEAR, COIN, HALF, NOUGHT, ONE, even, made_up_house, rearranged, strange, with_other_signs

LATE = House(2, (
    (((), (HALF, NOUGHT), ((((5, 0, 99), (HALF, NOUGHT), ()),), (((6,), ((1, 6), NOUGHT), ()), ((7,), ((1, 3), NOUGHT), ())))),
     ((1,), (HALF, ONE), ((((8,), ((1, 8), (1, 3)), ()), ((9,), ((3, 8), (2, 3)), ())),))),
    (((2, 3), (ONE, ONE), ()),),
))
TEXT = """worlds 2
0 - 1/2 0
.0 5,0,99 1/2 0
.1 6 1/6 0
.1 7 1/3 0
0 1 1/2 1
.0 8 1/8 1/3
.0 9 3/8 2/3
1 2,3 1 1
"""
NUMBER = "(?:0|[1-9][0-9]{0,29})"
FRACTION = f"-?{NUMBER}(?:/{NUMBER})?"
LINE = re.compile(rf"(\.*)({NUMBER}) (-|{NUMBER}(?:,{NUMBER})*)((?: {FRACTION})*)")


def fraction_of(text):
    """The fraction of a text of the form; None if it is not as fractions are written."""
    top, _, bottom = text.partition("/")
    if top == "-0" or ("/" in text and (int(bottom) < 2 or gcd(int(top), int(bottom)) != 1)):
        return None
    return (int(top), int(bottom or "1"))


def judged(text):
    """What read_house has to tell of a text: ("text", line), ("house", place), or ("right", house)."""
    lines = text.split("\n")
    rest = lines.pop()
    tree = []
    last = None
    for number, line in enumerate(lines):
        if number == 0:
            match = re.fullmatch(f"worlds ({NUMBER})", line)
            if not match:
                return ("text", 1)
            worlds = int(match[1])
            continue
        match = LINE.fullmatch(line)
        if not match:
            return ("text", number + 1)
        weights = [fraction_of(part) for part in match[4].split()]
        dots, question = len(match[1]), int(match[2])
        if None in weights or dots > (-1 if last is None else last) + 1:
            return ("text", number + 1)
        node = tree
        for _ in range(dots):
            node = node[-1][-1][2]
        if question not in (len(node), max(len(node) - 1, 0)):
            return ("text", number + 1)
        if question == len(node):
            node.append([])
        word = () if match[3] == "-" else tuple(map(int, match[3].split(",")))
        node[-1].append([word, tuple(weights), []])
        last = dots
    if rest or not lines:
        return ("text", len(lines) + 1)

    def closed(node):
        return tuple(tuple((word, weights, closed(behind)) for word, weights, behind in question) for question in node)

    try:
        return ("right", House(worlds, closed(tree)))
    except BadHouse as error:
        return ("house", error.place)


def found(text):
    """What read_house tells of a text, as judged does."""
    try:
        return ("right", read_house(text))
    except BadText as error:
        return ("text", error.line)
    except BadHouse as error:
        return ("house", error.place)


class HouseText(unittest.TestCase):
    def test_e10(self):
        self.assertEqual(house_text(COIN), "worlds 2\n0 0 3/4 1/4\n0 1 1/4 3/4\n")

    def test_line_by_line(self):
        self.assertEqual(house_text(LATE), TEXT)
        self.assertEqual(house_text(House(5, ())), "worlds 5\n")
        self.assertEqual(house_text(House(1, ((((), (ONE,), ()),),))), "worlds 1\n0 - 1\n")
        self.assertEqual(house_text(CLEAR), "worlds 2\n0 0 1 0\n0 1 0 1\n")

    def test_many_questions_and_dots(self):
        house = made_house(1, ((((), (ONE,), ()),),) * 12)
        self.assertEqual(house_text(house).split("\n")[11:], ["10 - 1", "11 - 1", ""])
        deep = ()
        for _ in range(12):
            deep = ((((), (ONE,), deep),),)
        self.assertEqual(house_text(made_house(1, deep)).split("\n")[12], "." * 11 + "0 - 1")

    def test_it_is_read_again(self):
        self.assertEqual(read_house(TEXT), LATE)
        for seed in range(150):
            dice = random.Random(seed)
            house = made_up_house(dice, dice.randrange(1, 6), dice.randrange(6), 3, 3)
            self.assertEqual(read_house(house_text(house)), house)
            self.assertEqual(house_text(read_house(house_text(house))), house_text(house))
        for house in (House(1, ()), begun(LATE), torn(COIN, 1), beside(COIN, CLEAR), House(1, (even(12),) * 5),
                      House(1, ((((0, 99) * 4, (ONE,), ()),),)), made_up_house(random.Random(3), 2, 1, 3, 3, True)):
            self.assertEqual(read_house(house_text(house)), house)

    def test_houses_that_functions_made(self):
        wide = made_house(1, (even(20),))
        self.assertEqual(found(house_text(wide)), ("house", (0,)))
        many = made_house(1, ((((), (ONE,), ()),),) * 6)
        self.assertEqual(found(house_text(many)), ("house", ()))
        long = torn(begun(begun(COIN)), 3)
        self.assertEqual(found(house_text(long)), judged(house_text(long)))
        great = made_house(1, ((((0,), (ONE, ), ()),), (((0,), (((10 ** 40) - 1, 10 ** 40),), ()), ((1,), ((1, 10 ** 40),), ()))))
        self.assertEqual(found(house_text(great)), ("text", 3))


class ReadHouse(unittest.TestCase):
    def bad(self, line, text):
        self.assertEqual(found(text), ("text", line), text)
        self.assertEqual(judged(text), ("text", line), text)

    def test_what_is_no_string(self):
        for thing in strange():
            if type(thing) is not str:
                with self.assertRaises(BadText) as caught:
                    read_house(thing)
                self.assertEqual(caught.exception.line, 0)

    def test_no_line(self):
        self.bad(1, "")
        self.bad(1, "worlds 2")
        self.bad(1, "\n")
        self.bad(1, "x")
        self.assertEqual(read_house("worlds 2\n"), House(2, ()))

    def test_the_last_line_feed(self):
        self.bad(10, TEXT + "x")
        self.bad(10, TEXT + " ")
        self.bad(10, TEXT + "1 4 0 0")
        self.bad(9, TEXT[:-1])
        self.bad(10, TEXT + "\n")
        self.bad(10, TEXT + "\nx")

    def test_the_first_line(self):
        for line in ("", "worlds", "worlds ", "worlds  2", " worlds 2", "worlds 2 ", "Worlds 2", "world 2", "worlds 02", "worlds -2",
                     "worlds 2/3", "worlds 2 2", "worlds x", "worlds " + "1" * 31, "0 - 1", "worlds2", "worlds +2", "worlds 2.0", "2", "s 2"):
            self.bad(1, line + "\n" + "\n".join(TEXT.split("\n")[1:]))
        for number in (0, 6, 10 ** 30 - 1):
            self.assertEqual(found(f"worlds {number}\n"), ("house", None))
        self.assertEqual(found("worlds 1\n0 - 1 1\n"), ("house", (0, 0)))

    def test_forms_of_lines(self):
        for line in (
            "", " ", "0", "0 ", " 0 - 1", "0  - 1", "0 - 1 ", "0 -  1", "00 - 1", "01 - 1", "0 -- 1", "0 0, 1", "0 ,0 1", "0 0,,0 1",
            "0 00 1", "0 0,01 1", "0 -1 1", "0 x 1", "x - 1", "0 - x", "0 - 1/1", "0 - 2/4", "0 - 0/1", "0 - 1/0", "0 - 0/2", "0 - -0",
            "0 - -", "0 - --1", "0 - 1/", "0 - /2", "0 - 1/2/3", "0 - 01", "0 - 1/02", "0 - 1/-2", "0 - -0/1", "0 - 1.0", "0 - +1",
            "0,- 1", "0 - 1,", "- - 1", "-0 - 1", "0.0 - 1", "0. - 1", ". 0 - 1", "0 - 1\t", "0\t- 1", "0 -,- 1", "0 0 - 1",
            "0 - " + "1" * 31, "0 - 1/" + "1" * 31, "0 " + "1" * 31 + " 1", "1" * 31 + " - 1", "0 - 4/6", "0 (0) 1", "0 0;1 1", "end",
        ):
            self.bad(2, "worlds 1\n" + line + "\n")
            self.bad(3, "worlds 1\n0 - 1\n" + line + "\n")
            self.bad(3, "worlds 1\n0 - 1\n." + line + "\n")

    def test_lines_of_the_form_that_no_house_has(self):
        for line, place in (
            ("0 -", (0, 0)), ("0 - 1 1", (0, 0)), ("0 - 2", (0, 0)), ("0 - -1", (0, 0)), ("0 - -1/2", (0, 0)), ("0 - 1/2", (0,)),
            ("0 - 3/2", (0, 0)), ("0 100 1", (0, 0)), ("0 0,0,0,0,0,0,0,0,0 1", (0, 0)), ("0 " + "9" * 30 + " 1", (0, 0)),
            ("0 - " + "9" * 30, (0, 0)), ("0 - 1/" + "9" * 30, (0,)), ("0 - 0", (0,)),
        ):
            self.assertEqual(found("worlds 1\n" + line + "\n"), ("house", place), line)
        self.assertEqual(found("worlds 1\n0 1 1/2\n0 0 1/2\n"), ("house", (0,)))
        self.assertEqual(found("worlds 1\n" + "".join(f"{n} - 1\n" for n in range(6))), ("house", ()))
        self.assertEqual(found("worlds 1\n" + "".join("." * n + "0 - 1\n" for n in range(9))), ("house", (0, 0) * 8))
        self.assertEqual(found("worlds 1\n" + "".join("." * n + "0 - 1\n" for n in range(8)))[0], "right")

    def test_thirty_figures(self):
        bottom = 10 ** 30 - 1
        text = f"worlds 1\n0 0 1/{bottom}\n0 1 {bottom - 1}/{bottom}\n"
        self.assertEqual(house_text(read_house(text)), text)

    def test_dots(self):
        self.bad(2, "worlds 1\n.0 - 1\n")
        self.bad(2, "worlds 1\n..0 - 1\n")
        self.bad(3, "worlds 1\n0 - 1\n..0 - 1\n")
        self.bad(4, "worlds 1\n0 - 1\n.0 - 1\n...0 - 1\n")
        self.bad(5, "worlds 1\n0 - 1\n.0 - 1\n1 - 1\n..0 - 1\n")
        self.assertEqual(found("worlds 1\n0 - 1\n.0 - 1\n1 - 1\n.0 - 1\n")[0], "right")

    def test_numbers_of_questions(self):
        self.bad(2, "worlds 1\n1 - 1\n")
        self.bad(3, "worlds 1\n0 - 1\n2 - 1\n")
        self.bad(4, "worlds 1\n0 - 1\n1 - 1\n0 - 1\n")
        self.bad(3, "worlds 1\n0 - 1\n.1 - 1\n")
        self.bad(5, "worlds 1\n0 - 1\n.0 - 1\n1 - 1\n.1 - 1\n")
        self.bad(5, "worlds 1\n0 - 1\n.0 - 1\n.1 - 1\n2 - 1\n")
        self.bad(3, "worlds 1\n0 - 1\n" + "9" * 30 + " - 1\n")
        self.assertEqual(found("worlds 1\n0 - 1\n.0 - 1\n.1 - 1\n1 - 1\n")[0], "right")

    def test_deep_texts(self):
        lines = ["." * n + "0 - 1" for n in range(190)]
        self.assertEqual(found("worlds 1\n" + "\n".join(lines) + "\n"), ("house", (0, 0) * 8))
        self.bad(192, "worlds 1\n" + "\n".join(lines) + "\n0 - 1 x\n")
        self.bad(2, "worlds 1\n" + "." * 19000 + "0 - 1\n")

    def test_many_answers(self):
        text = "worlds 1\n" + "0 - 1\n" * 3000
        self.assertEqual(found(text), ("house", (0,)))

    def test_lines_left_out_twice_or_exchanged(self):
        for text in rearranged(TEXT):
            self.assertEqual(found(text), judged(text), text)

    def test_all_signs(self):
        for text in with_other_signs(TEXT):
            self.assertEqual(found(text), judged(text), text)

    def test_texts_by_chance(self):
        kinds = set()
        for seed in range(3000):
            dice = random.Random(seed)
            house = made_up_house(dice, dice.randrange(1, 3), 3, 2, 2)
            lines = house_text(house).split("\n")
            for _ in range(dice.randrange(1, 4)):
                place = dice.randrange(len(lines))
                words = lines[place].split(" ")
                words[dice.randrange(len(words))] = dice.choice((
                    "0", "1", "-", "1/2", ".0", ".1", "..0", "2", "", "3/4", "-1/2", "1,1", "worlds", "2/4",
                ))
                lines[place] = " ".join(words)
            text = "\n".join(lines)
            kinds.add(found(text)[0])
            self.assertEqual(found(text), judged(text), text)
        self.assertEqual(kinds, {"right", "text", "house"})


if __name__ == "__main__":
    unittest.main()
