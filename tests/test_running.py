"""[2.2], and [0.5] as it speaks of houses that are made."""

import random
import unittest
from fractions import Fraction

from tellsless.errors import NoInside, TooLarge
from tellsless.houses import House, begun, made_house, paths, rounds
from tellsless.programs import Program
from tellsless.running import house_of
from tests.things import CLEAR, COIN, HALF, NOUGHT, ONE, chain, even, nested, strange


def number(n):
    return ("number", n)


def cell(c):
    return ("cell", c)


ROW12 = tuple(((1, 12), value) for value in range(12))
FAIR = ((HALF, 0), (HALF, 1))


class Reckoner:
    """Runs a program along one row of choices: a second way to reckon, one course at a time."""

    def __init__(self, program, inside, world, choices):
        self.program, self.inside, self.world = program, inside, world
        self.choices = list(choices)
        self.cells = [world] + [0] * (program.cells - 1)
        self.stands = [()] * program.houses
        self.chance = Fraction(1)
        self.seen = ()
        self.told = ()

    def value(self, expression):
        word = expression[0]
        if word == "cell":
            return self.cells[expression[1]]
        if word == "number":
            return expression[1]
        one, other = self.value(expression[1]), self.value(expression[2])
        return {"plus": one + other, "times": one * other, "same": int(one == other), "less": int(one < other)}[word] % 100

    def choose(self, many):
        if not self.choices:
            raise Need(many)
        return self.choices.pop(0)

    def body(self, body):
        for statement in body:
            if not self.statement(statement):
                return False
        return True

    def statement(self, statement):
        kind = statement[0]
        if kind == "stop":
            return False
        if kind == "set":
            self.cells[statement[1]] = self.value(statement[2])
        if kind == "toss":
            share, value = statement[2][self.choose(len(statement[2]))]
            self.chance *= Fraction(*share)
            self.cells[statement[1]] = value
        if kind == "if":
            return self.body(statement[2] if self.value(statement[1]) else statement[3])
        if kind == "times":
            return all(self.body(statement[2]) for _ in range(statement[1]))
        if kind == "tell":
            self.told += (self.value(statement[1]),)
        if kind == "ask":
            word, self.told = self.told + (statement[2],), ()
            self.seen += (word,)
            self.cells[statement[1]] = self.choose(statement[2])
            self.seen += (self.cells[statement[1]],)
        if kind == "hear":
            self.hear(statement)
        return True

    def hear(self, statement):
        _, k, expression, place = statement
        node, ahead = self.inside[k].tree, Fraction(1)
        for question, answer in self.stands[k]:
            _, weights, node = node[question][answer]
            ahead = Fraction(*weights[self.world])
        if not node:
            self.cells[place] = 99
            return
        question = self.value(expression) % len(node)
        answer = self.choose(len(node[question]))
        weight = Fraction(*node[question][answer][1][self.world])
        self.chance *= weight / ahead if ahead else 0
        self.stands[k] += ((question, answer),)
        self.cells[place] = answer % 100


class Need(Exception):
    pass


def reckoned(program, inside):
    """The house of a program, course by course."""
    weights = {}

    def note(run, world):
        if run.chance:
            row = weights.setdefault(run.seen, [Fraction(0)] * program.worlds)
            row[world] += run.chance

    for world in range(program.worlds):
        waiting = [()]
        while waiting:
            choices = waiting.pop()
            run = Reckoner(program, inside, world, choices)
            try:
                run.body(program.body)
                run.seen += (run.told + (0,),)
                note(run, world)
            except Need as need:
                if not run.chance:
                    continue
                if run.seen and isinstance(run.seen[-1], tuple):
                    note(run, world)
                waiting.extend(choices + (choice,) for choice in range(need.args[0]))
    tree = {}
    for seen in weights:
        tree.setdefault(seen[:-1], []).append(seen[-1])

    def question(seen):
        return tuple(
            (word, tuple((w.numerator, w.denominator) for w in weights[seen + (word,)]),
             tuple(question(seen + (word, q)) for q in range(word[-1])))
            for word in sorted(tree[seen])
        )
    return (question(()),)


class Maker:
    """Makes programs by dice, always the same ones for one seed."""

    def __init__(self, seed):
        self.dice = random.Random(seed)
        self.cells = self.dice.randint(1, 4)
        self.houses = self.dice.randint(0, 2)
        self.left = self.dice.randint(3, 14)

    def expression(self, deep):
        kind = self.dice.randrange(4 if deep else 2)
        if kind == 0:
            return number(self.dice.choice((0, 1, 2, 3, 50, 99)))
        if kind == 1:
            return cell(self.dice.randrange(self.cells))
        return (self.dice.choice(("plus", "times", "same", "less")), self.expression(deep - 1), self.expression(deep - 1))

    def rows(self):
        many = self.dice.randint(1, 3)
        parts = [self.dice.randint(1, 4) for _ in range(many)]
        shares = [Fraction(part, sum(parts)) for part in parts]
        return tuple(((s.numerator, s.denominator), self.dice.randint(0, 2)) for s in shares)

    def body(self, deep):
        return tuple(self.statement(deep) for _ in range(self.dice.randint(0 if deep < 3 else 2, 5)) if self.spend())

    def spend(self):
        self.left -= 1
        return self.left >= 0

    def statement(self, deep):
        place = self.dice.randrange(self.cells)
        kinds = ["set", "toss", "tell", "tell", "ask", "stop"] + ["if", "if", "times"] * (deep > 0)
        kinds += ["hear", "hear", "hear"] * (self.houses > 0)
        kind = self.dice.choice(kinds)
        if kind == "set":
            return ("set", place, self.expression(2))
        if kind == "toss":
            return ("toss", place, self.rows())
        if kind == "if":
            return ("if", self.expression(2), self.body(deep - 1), self.body(deep - 1))
        if kind == "times":
            return ("times", self.dice.randint(0, 2), self.body(deep - 1))
        if kind == "tell":
            return ("tell", self.expression(2))
        if kind == "ask":
            return ("ask", place, self.dice.randint(1, 2))
        if kind == "hear":
            return ("hear", self.dice.randrange(self.houses), self.expression(1), place)
        return ("stop",)

    def program(self):
        return Program(2, self.cells, self.houses, self.body(3))


TWICE = House(2, (
    (
        ((0,), (HALF, ONE), ((((0,), (HALF, NOUGHT), ()), ((1,), (NOUGHT, ONE), ())),)),
        ((1,), (HALF, NOUGHT), ((((9,), (HALF, NOUGHT), ()),), (((3,), ((1, 4), NOUGHT), ()), ((5,), ((1, 4), NOUGHT), ())))),
    ),
    ((((2,), (ONE, ONE), ())),),
))


class Ordinary(unittest.TestCase):
    def tree(self, worlds, cells, body, inside=()):
        return house_of(Program(worlds, cells, len(inside), body), inside).tree

    def words(self, cells, body, inside=()):
        worlds = inside[0].worlds if inside else 1
        return [answer[0] for answer in self.tree(worlds, cells, body, inside)[0]]

    def test_e06(self):
        program = Program(2, 2, 0, (
            ("toss", 1, (((3, 4), 0), ((1, 4), 1))), ("tell", ("same", ("cell", 0), ("cell", 1))),
        ))
        self.assertTrue(house_of(program, ()) == House(2, (
            (((0, 0), ((1, 4), (3, 4)), ()), ((1, 0), ((3, 4), (1, 4)), ())),
        )))

    def test_nothing_done(self):
        for worlds in range(1, 6):
            self.assertEqual(self.tree(worlds, 1, ()), ((((0,), (ONE,) * worlds, ()),),))

    def test_cells_at_first(self):
        tree = self.tree(5, 3, (("tell", cell(0)), ("tell", cell(1)), ("tell", cell(2))))
        self.assertEqual([answer[0] for answer in tree[0]], [(world, 0, 0, 0) for world in range(5)])
        self.assertEqual(tree[0][3][1], (NOUGHT, NOUGHT, NOUGHT, ONE, NOUGHT))

    def test_expressions(self):
        cases = [
            (("plus", number(60), number(60)), 20), (("plus", number(99), number(1)), 0),
            (("times", number(99), number(99)), 1), (("times", number(50), number(2)), 0),
            (("same", number(4), number(4)), 1), (("same", number(4), number(5)), 0),
            (("less", number(4), number(5)), 1), (("less", number(5), number(5)), 0), (("less", number(6), number(5)), 0),
            (("plus", ("times", number(3), number(5)), ("same", number(1), number(1))), 16),
        ]
        for expression, value in cases:
            self.assertEqual(self.words(1, (("tell", expression),)), [(value, 0)])
            self.assertEqual(self.words(2, (("set", 1, expression), ("tell", cell(1)))), [(value, 0)])

    def test_if(self):
        for value, told in ((0, 2), (1, 1), (99, 1)):
            body = (("if", number(value), (("tell", number(1)),), (("tell", number(2)),)), ("tell", number(3)))
            self.assertEqual(self.words(1, body), [(told, 3, 0)])
            self.assertEqual(self.words(1, (("if", number(value), (), ()), ("tell", number(3)))), [(3, 0)])

    def test_times(self):
        grow = ("set", 0, ("plus", cell(0), number(1)))
        for k in range(7):
            self.assertEqual(self.words(1, (("times", k, (grow,)), ("tell", cell(0)))), [(k, 0)])
            self.assertEqual(self.words(1, (("times", k, ()), ("tell", number(5)))), [(5, 0)])
            self.assertEqual(self.words(1, (("times", k, (("tell", cell(0)), grow)),)), [tuple(range(k)) + (0,)])
            self.assertEqual(self.words(1, (("times", k, (("times", 3, (grow,)), grow)), ("tell", cell(0)))), [(4 * k, 0)])

    def test_stop_within_bodies(self):
        body = (("times", 6, (
            ("tell", cell(0)),
            ("if", ("same", cell(0), number(2)), (("times", 3, (("stop",),)),), ()),
            ("set", 0, ("plus", cell(0), number(1))),
        )), ("tell", number(77)))
        self.assertEqual(self.words(1, body), [(0, 1, 2, 0)])
        self.assertEqual(self.words(1, (("stop",), ("tell", number(1)))), [(0,)])
        self.assertEqual(self.words(1, (("if", number(0), (), (("tell", number(4)), ("stop",))), ("tell", number(1)))), [(4, 0)])

    def test_toss(self):
        tree = self.tree(1, 2, (("toss", 1, (((1, 6), 9), ((1, 3), 4), (HALF, 9))), ("tell", cell(1))))
        self.assertEqual(tree, ((((4, 0), ((1, 3),), ()), ((9, 0), ((2, 3),), ())),))

    def test_courses_of_one_word_are_added(self):
        body = (("toss", 0, FAIR), ("toss", 1, FAIR), ("tell", ("plus", cell(0), cell(1))))
        self.assertEqual(self.tree(1, 2, body), (
            (((0, 0), ((1, 4),), ()), ((1, 0), (HALF,), ()), ((2, 0), ((1, 4),), ())),
        ))
        # By ways of unlike lengths, with numbers told at unlike statements.
        body = (("toss", 0, FAIR), ("if", cell(0), (("tell", number(7)), ("stop",)), (("times", 2, ()),)), ("tell", number(7)))
        self.assertEqual(self.tree(1, 1, body), ((((7, 0), (ONE,), ()),),))

    def test_words_ascend(self):
        body = (("toss", 0, ((HALF, 0), ((1, 4), 1), ((1, 4), 2))), ("tell", cell(0)), ("if", ("same", cell(0), number(0)),
                (("tell", number(10)), ("tell", number(2))), (("if", ("same", cell(0), number(2)), (("ask", 0, 1),), ()),)))
        self.assertEqual(self.words(1, body), [(0, 10, 2, 0), (1, 0), (2, 1)])

    def test_long_words(self):
        body = (("times", 6, (("times", 6, (("times", 6, (("tell", number(3)),)),)),)),)
        self.assertEqual(self.words(1, body), [(3,) * 216 + (0,)])

    def test_ask(self):
        body = (("tell", number(8)), ("ask", 1, 3), ("tell", cell(1)), ("ask", 0, 1), ("tell", cell(0)))
        tree = self.tree(2, 2, body)
        self.assertEqual(len(tree), 1)
        (word, weights, node), = tree[0]
        self.assertEqual((word, weights, len(node)), ((8, 3), (ONE, ONE), 3))
        for question in range(3):
            (word, weights, behind), = node[question]
            self.assertEqual((word, weights), ((question, 1), (ONE, ONE)))
            self.assertEqual(behind, ((((0, 0), (ONE, ONE), ()),),))

    def test_asks_at_unlike_statements(self):
        body = (("toss", 1, FAIR), ("if", cell(1), (("ask", 1, 2), ("tell", ("plus", cell(1), number(10)))), (("ask", 2, 2),)),
                ("tell", cell(2)))
        (word, weights, node), = self.tree(1, 3, body)[0]
        self.assertEqual((word, weights), ((2,), (ONE,)))
        self.assertEqual(node, (
            (((0, 0), (HALF,), ()), ((10, 0, 0), (HALF,), ())), (((1, 0), (HALF,), ()), ((11, 0, 0), (HALF,), ())),
        ))

    def test_asks_that_let_unlike_many(self):
        body = (("toss", 1, FAIR), ("if", cell(1), (("ask", 1, 2),), (("ask", 2, 3),)))
        question, = self.tree(1, 3, body)
        self.assertEqual([(answer[0], len(answer[2])) for answer in question], [((2,), 2), ((3,), 3)])

    def test_weights_behind_a_question(self):
        body = (("toss", 1, FAIR), ("ask", 2, 2), ("if", cell(2), (("tell", cell(1)),), ()))
        (_, _, node), = self.tree(1, 3, body)[0]
        self.assertEqual(node, ((((0,), (ONE,), ()),), (((0, 0), (HALF,), ()), ((1, 0), (HALF,), ()))))

    def test_hear(self):
        body = (("hear", 0, number(0), 1), ("tell", cell(1)))
        self.assertEqual(self.tree(2, 2, body, (COIN,)), (
            (((0, 0), ((3, 4), (1, 4)), ()), ((1, 0), ((1, 4), (3, 4)), ())),
        ))
        # The question is told modulo the number of questions.
        for asked in (1, 3, 99):
            body = (("hear", 0, number(asked), 1), ("tell", cell(1)))
            self.assertEqual(self.tree(2, 2, body, (TWICE,)), ((((0, 0), (ONE, ONE), ()),),))

    def test_hear_where_nothing_can_be_asked(self):
        again = (("hear", 0, number(5), 1), ("tell", cell(1)))
        self.assertEqual(self.words(2, again * 2, (House(1, ()),)), [(99, 99, 0)])
        self.assertEqual(self.words(2, again * 3, (CLEAR,)), [(0, 99, 99, 0), (1, 99, 99, 0)])
        tree = self.tree(2, 2, (("times", 3, again),), (TWICE,))
        self.assertEqual(tree, ((((0, 99, 99, 0), (ONE, ONE), ()),),))

    def test_hear_a_second_round(self):
        again = (("hear", 0, number(0), 1), ("tell", cell(1)))
        self.assertEqual(self.tree(2, 2, again * 2, (TWICE,)), ((
            ((0, 0, 0), (HALF, NOUGHT), ()), ((0, 1, 0), (NOUGHT, ONE), ()), ((1, 0, 0), (HALF, NOUGHT), ()),
        ),))
        other = (("hear", 0, number(0), 1), ("hear", 0, cell(1), 1), ("tell", cell(1)))
        self.assertEqual(self.tree(2, 2, other, (TWICE,)), ((
            ((0, 0), ((3, 4), NOUGHT), ()), ((1, 0), ((1, 4), ONE), ()),
        ),))

    def test_several_houses_inside(self):
        body = (("hear", 0, number(0), 1), ("hear", 1, number(0), 2), ("hear", 2, number(0), 3),
                ("tell", ("plus", cell(1), ("plus", cell(2), cell(3)))))
        cubes = self.tree(2, 4, body, (COIN, COIN, COIN))
        self.assertEqual([answer[1] for answer in cubes[0]], [
            ((27, 64), (1, 64)), ((27, 64), (9, 64)), ((9, 64), (27, 64)), ((1, 64), (27, 64)),
        ])
        body = (("hear", 1, number(0), 1), ("tell", cell(1)), ("hear", 1, number(0), 1), ("tell", cell(1)),
                ("hear", 0, number(0), 1), ("tell", cell(1)))
        self.assertEqual(self.words(2, body, (COIN, CLEAR)), [(0, 99, 0, 0), (0, 99, 1, 0), (1, 99, 0, 0), (1, 99, 1, 0)])

    def test_what_comes_in_no_world_is_left_out(self):
        body = (("hear", 0, number(0), 1), ("hear", 1, number(0), 2), ("tell", cell(1)), ("tell", cell(2)))
        self.assertEqual(self.words(3, body, (CLEAR, CLEAR)), [(0, 0, 0), (1, 1, 0)])
        hopeless = House(1, ((((0,), (ONE,), ()), ((1,), (NOUGHT,), ((((), (NOUGHT,), ()),),))),))
        body = (("hear", 0, number(0), 0), ("ask", 0, 1), ("hear", 0, number(0), 0), ("tell", cell(0)))
        self.assertEqual(self.tree(1, 1, body, (hopeless,)), ((((1,), (ONE,), ((((99, 0), (ONE,), ()),),)),),))

    def test_nothing_of_what_is_inside_is_seen(self):
        body = (("hear", 0, number(0), 1), ("ask", 1, 1), ("tell", number(4)))
        self.assertEqual(self.tree(2, 2, body, (CLEAR,)), ((((1,), (ONE, ONE), ((((4, 0), (ONE, ONE), ()),),)),),))

    def test_large_houses_inside(self):
        wide = made_house(1, (even(250),))
        body = (("hear", 0, number(0), 0), ("tell", cell(0)))
        question, = self.tree(1, 1, body, (wide,))
        self.assertEqual(len(question), 100)
        self.assertEqual([question[k][1] for k in (0, 49, 50, 99)], [((3, 250),), ((3, 250),), ((1, 125),), ((1, 125),)])
        many = made_house(1, tuple(even(1 + k) for k in range(7)))
        body = (("hear", 0, number(13), 0), ("tell", cell(0)))
        self.assertEqual(len(self.tree(1, 1, body, (many,))[0]), 7)
        deep = House(1, chain(8))
        for _ in range(4):
            deep = begun(deep)
        body = (("times", 2, (("times", 6, (("hear", 0, number(0), 0), ("tell", cell(0)))),)),) + (body[0], ("tell", cell(0)))
        self.assertEqual(self.words(1, body, (deep,)), [(0,) * 12 + (99, 0)])

    def test_arguments_stay_and_equal_calls_give_equal_answers(self):
        program = Program(2, 2, 2, (("hear", 0, number(0), 1), ("tell", cell(1))))
        inside = (COIN, TWICE)
        first = house_of(program, inside)
        self.assertEqual(first, house_of(Program(2, 2, 2, program.body), (House(2, COIN.tree), House(2, TWICE.tree))))
        self.assertEqual((program, inside), (Program(2, 2, 2, program.body), (COIN, TWICE)))


class Wrong(unittest.TestCase):
    def test_no_inside(self):
        one = Program(2, 1, 1, ())
        none = Program(2, 1, 0, ())
        for thing in strange():
            if thing != (COIN,):
                with self.assertRaises(NoInside):
                    house_of(one, thing)
            with self.assertRaises(NoInside):
                house_of(none, thing)
        for thing in ([], [COIN], COIN, (COIN, COIN), (House(1, ()),), (House(3, ()),), (COIN.tree,), (None,), ((COIN,),),
                      (one,), {0: COIN}, None, nested(120)):
            with self.assertRaises(NoInside):
                house_of(one, thing)
        with self.assertRaises(NoInside):
            house_of(none, [])
        three = Program(2, 1, 3, ())
        house_of(three, (COIN, CLEAR, COIN))
        for inside in ((COIN, CLEAR), (COIN, CLEAR, House(1, ())), (House(1, ()), CLEAR, COIN), (COIN, 5, COIN),
                       [COIN, CLEAR, COIN], (COIN,) * 4):
            with self.assertRaises(NoInside):
                house_of(three, inside)

    def test_no_inside_ahead_of_too_large(self):
        program = Program(1, 1, 0, (("times", 6, (("times", 6, (("ask", 0, 5),)),)),))
        with self.assertRaises(NoInside):
            house_of(program, (House(1, ()),))
        with self.assertRaises(NoInside):
            house_of(program, None)
        with self.assertRaises(TooLarge):
            house_of(program, ())

    def test_rounds(self):
        eleven = (("times", 5, (("ask", 0, 1),)), ("times", 6, (("ask", 0, 1),)))
        house = house_of(Program(1, 1, 0, eleven), ())
        self.assertEqual((rounds(house), len(paths(house))), (12, 13))
        with self.assertRaises(TooLarge):
            house_of(Program(1, 1, 0, eleven + (("ask", 0, 1),)), ())
        # Only on a way that comes in no world.
        house_of(Program(1, 1, 0, eleven + (("if", number(0), (("ask", 0, 1),), ()),)), ())
        body = (("toss", 0, FAIR), ("if", cell(0), eleven + (("ask", 0, 1),), ()))
        with self.assertRaises(TooLarge):
            house_of(Program(1, 1, 0, body), ())

    def body_of(self, last):
        """Tells 2999 words, and one more with as many ends as last has rows."""
        ten = tuple(((1, 10), value) for value in range(10))
        return (
            ("toss", 0, (((1, 3), 0), ((1, 3), 1), ((1, 3), 2))), ("tell", cell(0)),
            ("toss", 1, ten), ("tell", cell(1)), ("toss", 2, ten), ("tell", cell(2)), ("toss", 3, ten), ("tell", cell(3)),
            ("if", ("same", cell(0), number(2)), (("if", ("same", cell(1), number(0)), (("if", ("same", cell(2), number(0)),
             (("if", ("same", cell(3), number(9)), (("toss", 4, last), ("tell", cell(4))), ()),), ()),), ()),), ()),
        )

    def test_answers_in_one_question(self):
        house = house_of(Program(1, 5, 0, self.body_of(((ONE, 0),))), ())
        self.assertEqual(len(house.tree[0]), 3000)
        self.assertEqual(len(paths(house)), 3001)
        with self.assertRaises(TooLarge):
            house_of(Program(1, 5, 0, self.body_of(FAIR)), ())

    def test_answers_over_two_rounds(self):
        ten = tuple(((1, 10), value) for value in range(10))

        def house(last):
            body = (("ask", 0, 1), ("toss", 0, (((1, 3), 0), ((1, 3), 1), ((1, 3), 2))), ("tell", cell(0)),
                    ("toss", 1, ten), ("tell", cell(1)), ("toss", 2, ten), ("tell", cell(2)),
                    ("if", ("same", ("plus", cell(0), ("plus", cell(1), cell(2))), number(0)),
                     (("toss", 3, last),), (("toss", 3, ten),)), ("tell", cell(3)))
            return house_of(Program(1, 4, 0, body), ())
        nine = tuple(((1, 9), value) for value in range(9))
        self.assertEqual(len(paths(house(nine))), 1 + 3000)
        with self.assertRaises(TooLarge):
            house(ten)

    def test_far_too_large(self):
        for body in (
            (("times", 6, (("times", 6, (("toss", 0, ROW12), ("tell", cell(0)))),)),),
            (("times", 6, (("times", 6, (("ask", 0, 5),)),)),),
            (("times", 6, (("ask", 0, 5), ("toss", 0, ROW12), ("tell", cell(0)))),),
        ):
            with self.assertRaises(TooLarge):
                house_of(Program(5, 1, 0, body), ())

    def test_long_courses(self):
        count = (("set", 0, ("plus", cell(0), number(1))),)
        for _ in range(5):
            count = (("times", 6, count),)
        self.assertEqual(house_of(Program(1, 1, 0, count + (("tell", cell(0)),)), ()).tree[0][0][0], (7776 % 100, 0))

    def test_deep_bodies(self):
        body = (("tell", cell(0)), ("set", 0, ("plus", cell(0), number(1))))
        for k in range(39):
            body = (("if", number(1), body, ()),) if k % 2 else (("times", 2 if k < 8 else 1, body),)
        self.assertEqual(house_of(Program(1, 1, 0, body), ()).tree[0][0][0], tuple(range(16)) + (0,))


class Compared(unittest.TestCase):
    def test_with_courses_one_at_a_time(self):
        made = 0
        sizes = {}
        for seed in range(1500):
            program = Maker(seed).program()
            inside = (TWICE, COIN)[:program.houses]
            try:
                house = house_of(program, inside)
            except TooLarge:
                continue
            if len(paths(house)) > 400:
                continue
            self.assertEqual(house.tree, reckoned(program, inside), (seed, program.body))
            made += 1
            sizes[rounds(house)] = sizes.get(rounds(house), 0) + 1
        self.assertGreater(made, 1000)
        self.assertGreater(len(sizes), 3)


if __name__ == "__main__":
    unittest.main()
