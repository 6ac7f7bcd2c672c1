"""[14.1] and [14.2]: the desk."""

import random
import re
import unittest

from tellsless.deciding import are_alike, can_stand
from tellsless.desks import Desk
from tellsless.errors import (
    BadHouse, BadProgram, BadText, HouseError, NoGains, NoInside, NoLine, NoName, NoNumber, NoPrior, NotAlike, NothingDone,
    TooLarge,
)
from tellsless.houses import House
from tellsless.programs import Program
from tellsless.rooms import beside
from tellsless.running import house_of
from tellsless.sources import program_text
from tellsless.tearing import torn
from tellsless.texts import house_text
from tellsless.worths import luck, worth
from tests.test_running import Maker
from tests.test_texts import fraction_of
from tests.things import CLEAR, COIN, made_up_house, strange

COIN_LINE = "worlds 2|0 0 3/4 1/4|0 1 1/4 3/4|"
CLEAR_LINE = "worlds 2|0 0 1 0|0 1 0 1|"
LISTEN_LINE = "worlds 2|cells 2|houses 1|hear 0 0 1|tell c1|"
PLAIN_LINE = "worlds 2|cells 1|houses 0|tell c0|"
PAIR_LINE = "worlds 2|cells 3|houses 2|hear 0 0 1|hear 1 0 2|tell c1|tell c2|"
NAME = "[a-z]{1,8}"
NUMBER = "(?:0|[1-9][0-9]{0,8})"
PART = "-?(?:0|[1-9][0-9]{0,29})(?:/(?:0|[1-9][0-9]{0,29}))?"
ROW = f"{PART}(?: {PART})*"
FORMS = [
    f"house {NAME} .+", f"program {NAME} .+", f"run {NAME} {NAME}(?: {NAME})*", f"beside {NAME} {NAME} {NAME}",
    f"torn {NAME} {NAME} {NUMBER}", "undo", f"show {NAME}", f"source {NAME}", f"luck {NAME}", f"worth {NAME} {ROW}(?: ; {ROW})+",
    f"decide {NAME} {NAME}", f"alike {NAME} {NAME}",
]


def has_form(line):
    """Whether a line has one of the forms."""
    if "\n" in line or not any(re.fullmatch(form, line) for form in FORMS):
        return False
    if line.startswith("worth"):
        return all(fraction_of(word) for word in line.split(" ")[2:] if word != ";")
    return True


def desk_with(*lines):
    desk = Desk()
    for line in lines:
        desk.tell(line)
    return desk


def full_desk():
    return desk_with(
        "house coin " + COIN_LINE, "house clear " + CLEAR_LINE, "program listen " + LISTEN_LINE, "program plain " + PLAIN_LINE,
        "program pair " + PAIR_LINE, "house one worlds 1|",
    )


class Forms(unittest.TestCase):
    def test_houses_and_programs_are_kept(self):
        desk = Desk()
        self.assertEqual(desk.undoable(), 0)
        self.assertEqual(desk.tell("house coin " + COIN_LINE), "ok")
        self.assertEqual(desk.tell("show coin"), COIN_LINE)
        self.assertEqual(desk.tell("program p " + LISTEN_LINE), "ok")
        self.assertEqual(desk.tell("source p"), LISTEN_LINE)
        self.assertEqual(desk.undoable(), 2)

    def test_elder_ones_of_the_same_sort_are_replaced(self):
        desk = desk_with("house a " + COIN_LINE, "program a " + LISTEN_LINE)
        self.assertEqual((desk.tell("show a"), desk.tell("source a")), (COIN_LINE, LISTEN_LINE))
        desk.tell("house a " + CLEAR_LINE)
        self.assertEqual((desk.tell("show a"), desk.tell("source a")), (CLEAR_LINE, LISTEN_LINE))
        desk.tell("program a " + PLAIN_LINE)
        self.assertEqual((desk.tell("show a"), desk.tell("source a")), (CLEAR_LINE, PLAIN_LINE))

    def test_show_and_source_tell_the_texts(self):
        for seed in range(20):
            dice = random.Random(seed)
            house, program = made_up_house(dice, 2, 3, 2, 3), Maker(seed).program()
            lines = [text.replace("\n", "|") for text in (house_text(house), program_text(program))]
            desk = desk_with("house h " + lines[0], "program p " + lines[1])
            self.assertEqual([desk.tell("show h"), desk.tell("source p")], lines)

    def test_run(self):
        desk = full_desk()
        plain = Program(2, 1, 0, (("tell", ("cell", 0)),))
        self.assertEqual(desk.tell("run r plain"), "ok")
        self.assertEqual(desk.tell("show r"), house_text(house_of(plain, ())).replace("\n", "|"))
        self.assertEqual(desk.tell("run r listen coin"), "ok")
        self.assertEqual(desk.tell("show r"), "worlds 2|0 0,0 3/4 1/4|0 1,0 1/4 3/4|")
        self.assertEqual(desk.tell("run r pair coin clear"), "ok")
        self.assertEqual(desk.tell("show r"), "worlds 2|0 0,0,0 3/4 0|0 0,1,0 0 1/4|0 1,0,0 1/4 0|0 1,1,0 0 3/4|")
        self.assertEqual(desk.tell("run r pair clear coin"), "ok")
        self.assertEqual(desk.tell("show r"), "worlds 2|0 0,0,0 3/4 0|0 0,1,0 1/4 0|0 1,0,0 0 1/4|0 1,1,0 0 3/4|")
        # What is to be kept may be among what is needed.
        self.assertEqual(desk.tell("run coin listen coin"), "ok")
        self.assertEqual(desk.tell("show coin"), "worlds 2|0 0,0 3/4 1/4|0 1,0 1/4 3/4|")

    def test_beside_and_torn(self):
        desk = full_desk()
        self.assertEqual(desk.tell("beside b coin clear"), "ok")
        self.assertEqual(desk.tell("show b"), house_text(beside(COIN, CLEAR)).replace("\n", "|"))
        self.assertEqual(desk.tell("beside b clear coin"), "ok")
        self.assertEqual(desk.tell("show b"), house_text(beside(CLEAR, COIN)).replace("\n", "|"))
        for times in range(4):
            self.assertEqual(desk.tell(f"torn t coin {times}"), "ok")
            self.assertEqual(desk.tell("show t"), house_text(torn(COIN, times)).replace("\n", "|"))
        desk.tell("torn coin coin 1")
        self.assertEqual(desk.tell("show coin"), house_text(torn(COIN, 1)).replace("\n", "|"))

    def test_luck_and_worth(self):
        desk = full_desk()
        self.assertEqual(desk.tell("luck coin"), "3/2")
        self.assertEqual(desk.tell("luck clear"), "2")
        self.assertEqual(desk.tell("luck one"), "1")
        self.assertEqual(luck(CLEAR), (2, 1))
        self.assertEqual(desk.tell("worth coin 1/2 1/2 ; 1 0 ; 0 1"), "3/4")
        self.assertEqual(desk.tell("worth coin 1/2 1/2 ; -1 -1"), "-1")
        self.assertEqual(desk.tell("worth coin 1 0 ; -1/3 7"), "-1/3")
        self.assertEqual(desk.tell("worth one 1 ; 0"), "0")
        gains = (((-1, 2), (5, 1)), ((3, 1), (-2, 7)), ((0, 1), (0, 1)))
        self.assertEqual(worth(COIN, ((1, 3), (2, 3)), gains), fraction_of(desk.tell("worth coin 1/3 2/3 ; -1/2 5 ; 3 -2/7 ; 0 0")))
        great = "9" * 30
        self.assertEqual(desk.tell(f"worth one 1 ; {great} ; -{great} ; 1/{great}"), great)

    def test_decide_and_alike(self):
        desk = full_desk()
        desk.tell("torn again clear 1")
        self.assertEqual(desk.tell("decide coin clear"), "against")
        self.assertEqual(desk.tell("decide clear coin"), "between")
        self.assertEqual(desk.tell("decide coin coin"), "between")
        self.assertEqual(desk.tell("alike coin clear"), "no")
        self.assertEqual(desk.tell("alike clear coin"), "no")
        self.assertEqual(desk.tell("alike clear again"), "yes")
        for seed in range(12):
            dice = random.Random(seed)
            first, second = [made_up_house(dice, 2, 2, 1, 2) for _ in range(2)]
            desk = desk_with(*[f"house {name} " + house_text(house).replace("\n", "|") for name, house in (("a", first), ("b", second))])
            self.assertEqual(desk.tell("decide a b"), "between" if can_stand(first, second) else "against")
            self.assertEqual(desk.tell("alike a b"), "yes" if are_alike(first, second) else "no")

    def test_names(self):
        desk = Desk()
        for name in ("a", "z", "house", "undo", "abcdefgh", "zzzzzzzz", "worlds"):
            self.assertEqual(desk.tell(f"house {name} worlds 1|"), "ok")
            self.assertEqual(desk.tell(f"show {name}"), "worlds 1|")

    def test_another_desk_keeps_other_things(self):
        first, second = full_desk(), Desk()
        with self.assertRaises(NoName):
            second.tell("show coin")
        self.assertEqual((first.undoable(), second.undoable()), (6, 0))


class Undo(unittest.TestCase):
    def test_lines_are_taken_back(self):
        desk = desk_with("house a " + COIN_LINE, "house a " + CLEAR_LINE, "program a " + PLAIN_LINE, "torn b a 1", "beside a b a", "run a a")
        self.assertEqual(desk.undoable(), 6)
        self.assertEqual(desk.tell("undo"), "ok")
        self.assertEqual(desk.tell("show a"), house_text(beside(torn(CLEAR, 1), CLEAR)).replace("\n", "|"))
        desk.tell("undo")
        self.assertEqual(desk.tell("show a"), CLEAR_LINE)
        desk.tell("show b")
        desk.tell("undo")
        with self.assertRaises(NoName) as caught:
            desk.tell("show b")
        self.assertEqual(caught.exception.name, "b")
        self.assertEqual(desk.tell("source a"), PLAIN_LINE)
        desk.tell("undo")
        with self.assertRaises(NoName):
            desk.tell("source a")
        self.assertEqual(desk.undoable(), 2)
        desk.tell("undo")
        self.assertEqual(desk.tell("show a"), COIN_LINE)
        desk.tell("undo")
        with self.assertRaises(NoName):
            desk.tell("show a")
        self.assertEqual(desk.undoable(), 0)

    def test_more_undo_than_there_is(self):
        desk = Desk()
        for _ in range(2):
            with self.assertRaises(NothingDone):
                desk.tell("undo")
        desk.tell("house a " + COIN_LINE)
        desk.tell("undo")
        with self.assertRaises(NothingDone):
            desk.tell("undo")
        self.assertEqual(desk.undoable(), 0)
        desk.tell("house a " + COIN_LINE)
        self.assertEqual((desk.undoable(), desk.tell("show a")), (1, COIN_LINE))

    def test_what_keeps_nothing_is_not_taken_back(self):
        desk = full_desk()
        for line in ("show coin", "source pair", "luck coin", "worth one 1 ; 1", "decide coin clear", "alike coin coin"):
            desk.tell(line)
            self.assertEqual(desk.undoable(), 6)
        desk.tell("undo")
        with self.assertRaises(NoName):
            desk.tell("show one")
        self.assertEqual(desk.tell("show clear"), CLEAR_LINE)

    def test_lines_and_undos_by_chance(self):
        dice = random.Random(1)
        desk, kept = Desk(), [{}]
        texts = (COIN_LINE, CLEAR_LINE, "worlds 2|", "worlds 1|")
        for _ in range(400):
            if dice.randrange(3):
                name, text = dice.choice("abc"), dice.choice(texts)
                desk.tell(f"house {name} {text}")
                kept.append({**kept[-1], name: text})
            elif len(kept) > 1:
                desk.tell("undo")
                kept.pop()
            else:
                with self.assertRaises(NothingDone):
                    desk.tell("undo")
            self.assertEqual(desk.undoable(), len(kept) - 1)
            for name in "abc":
                if name in kept[-1]:
                    self.assertEqual(desk.tell("show " + name), kept[-1][name])
                else:
                    with self.assertRaises(NoName):
                        desk.tell("show " + name)


class Errors(unittest.TestCase):
    def setUp(self):
        self.desk = full_desk()

    def state(self):
        return (
            self.desk.undoable(), [self.desk.tell("show " + name) for name in ("coin", "clear", "one")],
            [self.desk.tell("source " + name) for name in ("listen", "plain", "pair")],
        )

    def fails(self, error, line):
        """Sees that a line raises an error, and that nothing changes; the error."""
        before = self.state()
        with self.assertRaises(error) as caught:
            self.desk.tell(line)
        self.assertIs(type(caught.exception), error)
        self.assertEqual(self.state(), before)
        return caught.exception

    def test_what_is_no_string(self):
        for thing in strange() + [b"undo", ["undo"], ("show", "coin")]:
            if type(thing) is not str:
                self.fails(NoLine, thing)

    def test_what_has_no_form(self):
        for line in (
            "", " ", "show", "show ", "show  coin", " show coin", "show coin ", "show coin clear", "Show coin", "SHOW coin", "showcoin",
            "show Coin", "show coiN", "show abcdefghi", "show c1", "show 1", "show co-in", "show ;", "show coin;", "shows coin",
            "source", "source listen plain", "source ", "luck", "luck coin coin", "luck  coin", "list", "quit", "undo ", " undo",
            "undo undo", "undo coin", "UNDO", "undos", "decide coin", "decide", "decide coin clear one", "decide coin  clear", "alike coin",
            "alike", "alike coin clear coin", "alike coin clear ", "beside b coin", "beside b coin clear coin", "beside b", "beside",
            "beside b coin Clear", "torn t coin", "torn t coin -1", "torn t coin 01", "torn t coin 1 1", "torn t coin x", "torn t coin 1/2",
            "torn t coin " + "1" * 10, "torn t 1", "torn t", "torn", "torn t coin  1", "torn t coin 00", "torn t coin +1",
            "run", "run r", "run r ", "run r listen  coin", "run r listen coin ", "run r 1", "run R listen coin", "run r listen abcdefghi",
            "house", "house a", "house a ", "house  a worlds 1|", "house A worlds 1|", "house abcdefghi worlds 1|",
            "program", "program a", "program a ", "program 1 worlds 1|", "program a1 worlds 1|", "House a worlds 1|", "house a\n",
            "worth", "worth coin", "worth coin ", "worth coin 1/2 1/2", "worth coin 1/2 1/2 ;", "worth coin 1/2 1/2 ; ", "worth coin ; 1 0",
            "worth coin 1/2 1/2 1 0", "worth coin 1/2 1/2; 1 0", "worth coin 1/2 1/2 ;1 0", "worth coin 1/2 1/2 ;; 1 0",
            "worth coin 1/2 1/2 ; ; 1 0", "worth coin 1/2  1/2 ; 1 0", "worth coin 1/2 1/2 ; 1 0 ;", "worth coin 1/2 1/2 ; 2/4 0",
            "worth coin 1/2 1/2 ; 1/1 0", "worth coin 1/2 1/2 ; 01 0", "worth coin 1/2 1/2 ; -0 0", "worth coin 1/2 1/2 ; 1 x",
            "worth coin 1/2 1/2 ; 1 " + "1" * 31, "worth coin 1/2 1/2 ; 1 1/" + "1" * 31, "worth coin 1/2 1/2 : 1 0", "worth ; 1 ; 1",
            "worth coin 1/2 1/2 ; 1/0 0", "worth coin 1/2 1/2 ; 0/2 0", "worth coin 1/2 1/2 ; 1/-2 0", "worth coin 1/2 1/2 ; 1 0 ; 0 1 ",
            "worth Coin 1/2 1/2 ; 1 0", "show coin\n", "\n", "undo\n", "show\ncoin", "house a worlds 1\n",
        ):
            self.assertFalse(has_form(line), line)
            self.fails(NoLine, line)

    def test_spoiled_lines(self):
        lines = (
            "house a worlds 1|", "program a worlds 1|cells 1|houses 0|", "run a listen coin", "beside a coin clear", "torn a coin 1",
            "undo", "show coin", "source pair", "luck coin", "worth coin 1/2 1/2 ; 1 0 ; 0 1", "decide coin clear", "alike coin one",
        )
        signs = " 01/-;|,az A.{~"
        tried = 0
        for line in lines:
            for place in range(len(line) + 1):
                texts = [line[:place] + line[place + 1:], line[:place]]
                for sign in signs + "\n":
                    texts += [line[:place] + sign + line[place:], line[:place] + sign + line[place + 1:]]
                for text in texts:
                    if has_form(text):
                        try:
                            full_desk_tell(text)
                        except NoLine:
                            self.fail(text)
                        except HouseError:
                            pass
                    else:
                        tried += 1
                        with self.assertRaises(NoLine):
                            self.desk.tell(text)
        self.assertGreater(tried, 3000)
        self.assertEqual(self.state(), Errors.fresh())

    @staticmethod
    def fresh():
        other = Errors()
        other.desk = full_desk()
        return other.state()

    def test_no_name(self):
        for line, name in (
            ("show x", "x"), ("show listen", "listen"), ("source coin", "coin"), ("source x", "x"), ("luck x", "x"), ("luck plain", "plain"),
            ("run r coin", "coin"), ("run r x y z", "x"), ("run r listen x", "x"), ("run r pair coin x", "x"), ("run r pair x y", "x"),
            ("run r pair coin plain", "plain"), ("run r coin x", "coin"), ("beside b x y", "x"), ("beside b coin y", "y"),
            ("beside b pair y", "pair"), ("torn t x 9", "x"), ("torn t t 1", "t"), ("decide x y", "x"), ("decide coin y", "y"),
            ("alike x coin", "x"), ("alike coin y", "y"), ("worth x 7 ; 1", "x"), ("worth pair 1/2 1/2 ; 1 0", "pair"), ("run x x", "x"),
        ):
            self.assertEqual(self.fails(NoName, line).name, name)

    def test_what_the_functions_raise(self):
        self.assertEqual(self.fails(BadText, "house coin x").line, 1)
        self.assertEqual(self.fails(BadText, "house coin  worlds 1|").line, 1)
        self.assertEqual(self.fails(BadText, "house coin worlds 1").line, 1)
        self.assertEqual(self.fails(BadText, "house coin |").line, 1)
        self.assertEqual(self.fails(BadText, "house coin worlds 1|0 - 1").line, 2)
        self.assertEqual(self.fails(BadText, "house new worlds 1|1 - 1|").line, 2)
        self.assertEqual(self.fails(BadHouse, "house coin worlds 6|").place, None)
        self.assertEqual(self.fails(BadHouse, "house coin worlds 1|0 - 1/2|").place, (0,))
        self.assertEqual(self.fails(BadText, "program plain worlds 1|cells 1|").line, 3)
        self.assertEqual(self.fails(BadProgram, "program plain worlds 1|cells 7|houses 0|").part, ("cells",))
        self.fails(NoInside, "run r listen")
        self.fails(NoInside, "run coin listen coin coin")
        self.fails(NoInside, "run r plain coin")
        self.fails(NoInside, "run r listen one")
        self.fails(NotAlike, "beside coin coin one")
        self.fails(NotAlike, "decide coin one")
        self.fails(NotAlike, "alike one coin")
        for times in ("4", "9" * 9):
            self.fails(NoNumber, "torn coin coin " + times)
        self.fails(NoPrior, "worth coin 1/2 1/3 ; 1 0")
        self.fails(NoPrior, "worth coin 1 ; 1 0")
        self.fails(NoPrior, "worth coin -1 2 ; 1 0")
        self.fails(NoPrior, "worth coin 1 ; 1")
        self.fails(NoGains, "worth coin 1/2 1/2 ; 1")
        self.fails(NoGains, "worth coin 1/2 1/2 ; 1 0 ; 1 0 0")

    def test_too_large(self):
        self.desk.tell("torn big coin 3")
        self.desk.tell("beside big clear coin")
        self.desk.tell("beside big big big")
        many = self.desk.undoable()
        with self.assertRaises(TooLarge):
            self.desk.tell("beside big big big")
        self.assertEqual(self.desk.undoable(), many)

    def test_what_is_to_be_kept_changes_nothing_if_it_fails(self):
        self.fails(NoName, "beside coin x coin")
        self.fails(NoInside, "run coin pair coin")
        self.assertEqual(self.desk.tell("show coin"), COIN_LINE)


def full_desk_tell(line):
    """What a new full desk tells of a line; it is not too large."""
    return full_desk().tell(line)


class ThroughTheDesk(unittest.TestCase):
    def test_what_it_keeps_is_the_house(self):
        desk = desk_with("house coin " + COIN_LINE)
        desk.tell("torn t coin 2")
        desk.tell("house u " + desk.tell("show t"))
        self.assertEqual(desk.tell("show u"), desk.tell("show t"))
        self.assertEqual(House(2, torn(COIN, 2).tree), torn(COIN, 2))


if __name__ == "__main__":
    unittest.main()
