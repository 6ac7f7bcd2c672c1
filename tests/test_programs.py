"""[2.1]: programs."""

import unittest

from tellsless.errors import BadProgram, NoPath
from tellsless.houses import House
from tellsless.programs import Program
from tests.things import HALF, NOUGHT, ONE, nested, strange

ZERO = ("number", 0)
STOP = ("stop",)
BAD = ("stop", 1)


def deep_expression(deep, leaf=ZERO, first=False):
    """An E so deep, by its second part or by its first one."""
    thing = leaf
    for _ in range(deep - 1):
        thing = ("plus", thing, ZERO) if first else ("less", ZERO, thing)
    return thing


def deep_body(deep, within=(), second=False):
    """A body with bodies within bodies, so many in all."""
    body = within
    for _ in range(deep - 1):
        body = (("if", ZERO, (), body),) if second else (("times", 1, body),)
    return body


class Judged(unittest.TestCase):
    def part(self, worlds, cells, houses, body):
        with self.assertRaises(BadProgram) as caught:
            Program(worlds, cells, houses, body)
        return caught.exception.part

    def right(self, *statements, cells=6, houses=3):
        self.assertEqual(Program(1, cells, houses, statements).body, statements)
        # Behind another one, and within a body.
        Program(1, cells, houses, (STOP, ("times", 0, statements)))

    def wrong(self, statement, cells=6, houses=3):
        self.assertEqual(self.part(1, cells, houses, (statement,)), ("statement", 0), statement)
        self.assertEqual(self.part(1, cells, houses, (STOP, statement, BAD)), ("statement", 1), statement)
        body = (("if", ZERO, (STOP,), (STOP, statement)), BAD)
        self.assertEqual(self.part(1, cells, houses, body), ("statement", 3), statement)

    def test_attributes_and_equality(self):
        program = Program(2, 3, 1, (STOP,))
        self.assertEqual((program.worlds, program.cells, program.houses, program.body), (2, 3, 1, (STOP,)))
        self.assertTrue(program == Program(2, 3, 1, (("stop",),)))
        self.assertFalse(program != Program(2, 3, 1, (STOP,)))
        for other in (Program(1, 3, 1, (STOP,)), Program(2, 2, 1, (STOP,)), Program(2, 3, 0, (STOP,)),
                      Program(2, 3, 1, (STOP, STOP)), Program(2, 3, 1, ())):
            self.assertFalse(program == other)
            self.assertTrue(program != other)

    def test_equal_to_nothing_of_another_kind(self):
        program = Program(1, 1, 0, ())
        for thing in (None, 0, (), (1, 1, 0, ()), [], "", House(1, ()), Program, NoPath()):
            self.assertFalse(program == thing)
            self.assertFalse(thing == program)

    def test_numbers(self):
        for worlds in range(1, 6):
            self.assertEqual(Program(worlds, 1, 0, ()).worlds, worlds)
        for cells in range(1, 7):
            self.assertEqual(Program(1, cells, 0, ()).cells, cells)
        for houses in range(4):
            self.assertEqual(Program(1, 1, houses, ()).houses, houses)
        for thing in strange():
            self.assertEqual(self.part(thing, 0, 4, 5), ("worlds",))
            self.assertEqual(self.part(5, thing, 4, 5), ("cells",))
            self.assertEqual(self.part(5, 6, thing, 5), ("houses",))
        for number in (0, 6, -1, (1,), True):
            self.assertEqual(self.part(number, 1, 0, ()), ("worlds",))
        for number in (0, 7, -1, (1,), True):
            self.assertEqual(self.part(1, number, 0, ()), ("cells",))
        for number in (-1, 4, (1,), True, False, None):
            self.assertEqual(self.part(1, 1, number, ()), ("houses",))

    def test_strange_things_as_statements(self):
        for thing in strange():
            self.wrong(thing)
            for word in ("set", "toss", "if", "times", "tell", "ask", "hear", "stop"):
                self.wrong((word, thing))
                self.wrong((word, thing, thing))
                self.wrong((word, thing, thing, thing))
            self.wrong((thing, 0, ZERO))
            self.wrong(("tell", (thing, ZERO, ZERO)))
            self.wrong(("tell", ("plus", thing, ZERO)))
            self.wrong(("tell", ("plus", ZERO, thing)))

    def test_expressions(self):
        for expression in (ZERO, ("number", 99), ("cell", 0), ("cell", 5)):
            self.right(("tell", expression))
        for word in ("plus", "times", "same", "less"):
            self.right(("tell", (word, ("cell", 1), ("number", 7))))
            self.wrong(("tell", (word, ZERO)))
            self.wrong(("tell", (word, ZERO, ZERO, ZERO)))
            self.wrong(("tell", [word, ZERO, ZERO]))
            self.wrong(("tell", (word, ZERO, ("cell", 6))))
        for expression in (0, (), [], ["number", 0], ("number",), ("number", 100), ("number", -1), ("number", True),
                           ("number", 0, 0), ("number", "0"), ("cell",), ("cell", 6), ("cell", -1), ("cell", False),
                           ("cell", 0, 0), ("minus", ZERO, ZERO), ("Plus", ZERO, ZERO), (b"plus", ZERO, ZERO), ("same",),
                           ("cell", ("number", 0)), ("number", ZERO)):
            self.wrong(("tell", expression))
            self.wrong(("tell", ("same", expression, ZERO)))
            self.wrong(("set", 0, expression))
            self.wrong(("hear", 0, expression, 0))
            self.wrong(("if", expression, (), ()))
        self.right(("tell", ("cell", 2)), cells=3)
        self.wrong(("tell", ("cell", 3)), cells=3)

    def test_deep_expressions(self):
        for first in (False, True):
            self.right(("tell", deep_expression(8, first=first)))
            self.wrong(("tell", deep_expression(9, first=first)))
            self.wrong(("set", 0, deep_expression(9, first=first)))
            self.wrong(("hear", 0, deep_expression(9, first=first), 0))
            self.wrong(("if", deep_expression(9, first=first), (), ()))
            self.wrong(("if", deep_expression(9, first=first), 5, 5))
            self.wrong(("tell", deep_expression(110, first=first)))
        full = ZERO
        for _ in range(7):
            full = ("times", full, full)
        self.right(("tell", full))
        self.wrong(("tell", ("times", full, ZERO)))

    def test_set(self):
        self.right(("set", 0, ZERO), ("set", 5, ("cell", 5)))
        self.right(("set", 1, ZERO), cells=2)
        self.wrong(("set", 2, ZERO), cells=2)
        for statement in (("set",), ("set", 0), ("set", 0, ZERO, ZERO), ("set", -1, ZERO), ("set", 6, ZERO),
                          ("set", True, ZERO), ("set", False, ZERO), ("set", ("cell", 0), ZERO), ["set", 0, ZERO],
                          ("Set", 0, ZERO)):
            self.wrong(statement)

    def test_toss(self):
        twelve = tuple(((1, 12), 7) for _ in range(12))
        self.right(("toss", 0, ((ONE, 0),)), ("toss", 5, ((HALF, 99), (HALF, 99))), ("toss", 0, twelve))
        big = 10 ** 29
        self.right(("toss", 0, (((1, big), 1), ((big - 1, big), 2))))
        for rows in ((), [(ONE, 0)], ([ONE, 0],), (([1, 1], 0),), tuple(((1, 13), 0) for _ in range(13)),
                     ((HALF, 0),), ((HALF, 0), (ONE, 0)), ((ONE, 0), (NOUGHT, 1)), ((ONE, 100),), ((ONE, -1),),
                     ((ONE, True),), ((ONE,),), ((ONE, 0, 0),), (((2, 2), 0),), (((2, 4), 0), (HALF, 0)),
                     (((3, 2), 0), ((-1, 2), 0)), (((True, 1), 0),), (((1, True), 0),), (((1, 0), 0),), (((-1, -1), 0),),
                     5, None, ONE, (ONE, 0)):
            self.wrong(("toss", 0, rows))
        for statement in (("toss", 0), ("toss", 6, ((ONE, 0),)), ("toss", -1, ((ONE, 0),)), ("toss", True, ((ONE, 0),)),
                          ("toss", 0, ((ONE, 0),), 0)):
            self.wrong(statement)

    def test_if_and_times(self):
        self.right(("if", ZERO, (), ()), ("if", ZERO, (STOP,), (("if", ZERO, (), (STOP,)),)))
        self.right(*[("times", k, (STOP,)) for k in range(7)])
        for statement in (("if",), ("if", ZERO), ("if", ZERO, ()), ("if", ZERO, (), (), ()), ("if", 5, (), ()),
                          ("times",), ("times", 1), ("times", 7, ()), ("times", -1, ()), ("times", True, ()),
                          ("times", 1, (), ()), ("times", ZERO, ()), ("times", 7, 5), ["times", 1, ()]):
            self.wrong(statement)

    def test_tell_ask_stop(self):
        self.right(("tell", ZERO), STOP, *[("ask", 5, many) for many in range(1, 6)])
        for statement in (("tell",), ("tell", 0), ("tell", ZERO, ZERO), ("stop", 0), ("stop", ()), "stop", ["stop"],
                          ("ask",), ("ask", 0), ("ask", 0, 0), ("ask", 0, 6), ("ask", 0, True), ("ask", 6, 1),
                          ("ask", -1, 1), ("ask", False, 1), ("ask", 0, 1, 1), ("ask", 0, ("number", 1)), (), ("go",)):
            self.wrong(statement)
        self.wrong(("ask", 1, 1), cells=1)

    def test_hear(self):
        self.right(("hear", 0, ZERO, 0), ("hear", 2, ("cell", 5), 5))
        self.right(("hear", 0, ZERO, 0), cells=1, houses=1)
        self.wrong(("hear", 1, ZERO, 0), cells=1, houses=1)
        self.wrong(("hear", 0, ZERO, 1), cells=1, houses=1)
        self.wrong(("hear", 0, ZERO, 0), houses=0)
        for statement in (("hear",), ("hear", 0, ZERO), ("hear", 0, ZERO, 0, 0), ("hear", 3, ZERO, 0), ("hear", -1, ZERO, 0),
                          ("hear", True, ZERO, 0), ("hear", 0, 0, 0), ("hear", 0, ZERO, 6), ("hear", 0, ZERO, -1),
                          ("hear", 0, ZERO, True)):
            self.wrong(statement)

    def test_numbering(self):
        body = (
            ("if", ZERO, (STOP, ("times", 2, (STOP, STOP))), (STOP,)),
            ("times", 0, ()),
            STOP,
        )
        Program(1, 1, 0, body)
        self.assertEqual(self.part(1, 1, 0, body + (BAD,)), ("statement", 8))
        self.assertEqual(self.part(1, 1, 0, (("if", ZERO, (BAD, BAD), (BAD,)), BAD)), ("statement", 1))
        self.assertEqual(self.part(1, 1, 0, (("if", ZERO, (STOP, ("times", 1, (STOP, BAD))), (BAD,)),)), ("statement", 4))
        self.assertEqual(self.part(1, 1, 0, (("if", ZERO, (), (STOP, BAD)), BAD)), ("statement", 2))
        # A wrong statement is not looked into: it stands ahead of those in its bodies.
        self.assertEqual(self.part(1, 1, 0, (STOP, ("times", 7, (BAD,)))), ("statement", 1))
        self.assertEqual(self.part(1, 1, 0, (STOP, ("if", 5, (BAD,), (BAD,)))), ("statement", 1))

    def test_bodies_that_are_none(self):
        for thing in (None, [], [STOP], 5, "stop", {}, True, b""):
            self.assertEqual(self.part(1, 1, 0, thing), ("body",))
            for statement in (("if", ZERO, thing, ()), ("if", ZERO, (), thing), ("times", 0, thing), ("if", ZERO, thing, thing)):
                self.assertEqual(self.part(1, 1, 0, (statement,)), ("body",))
                self.assertEqual(self.part(1, 1, 0, (("times", 1, (statement, STOP)), STOP)), ("body",))
                # Any wrong statement that can be read is told ahead of it.
                self.assertEqual(self.part(1, 1, 0, (statement, BAD)), ("statement", 1))
                self.assertEqual(self.part(1, 1, 0, (BAD, statement)), ("statement", 0))
            self.assertEqual(self.part(1, 1, 0, (("if", ZERO, thing, (BAD,)),)), ("statement", 1))
            self.assertEqual(self.part(1, 1, 0, (("if", ("cell", 1), thing, ()),)), ("statement", 0))
        # What stands in a thing that is no body is not read.
        self.assertEqual(self.part(1, 1, 0, [BAD]), ("body",))
        self.assertEqual(self.part(1, 1, 0, (("times", 1, [BAD]),)), ("body",))

    def test_too_many_statements(self):
        self.assertEqual(len(Program(1, 1, 0, (STOP,) * 2000).body), 2000)
        self.assertEqual(self.part(1, 1, 0, (STOP,) * 2001), ("body",))
        self.assertEqual(self.part(1, 1, 0, (STOP,) * 2000 + (BAD,)), ("statement", 2000))
        self.assertEqual(self.part(1, 1, 0, (STOP,) * 50000 + (BAD,)), ("statement", 50000))
        within = (("times", 1, (STOP,) * 999), ("if", ZERO, (STOP,) * 500, (STOP,) * 499))
        Program(1, 1, 0, within)
        self.assertEqual(self.part(1, 1, 0, within + (STOP,)), ("body",))

    def test_too_deep_bodies(self):
        for second in (False, True):
            for inner in ((), (STOP,)):
                Program(1, 1, 0, deep_body(40, inner, second))
                self.assertEqual(self.part(1, 1, 0, deep_body(41, inner, second)), ("body",))
                self.assertEqual(self.part(1, 1, 0, deep_body(58, inner, second)), ("body",))
            # Statements that are too deep are read all the same.
            self.assertEqual(self.part(1, 1, 0, deep_body(41, (STOP, BAD), second)), ("statement", 41))
            self.assertEqual(self.part(1, 1, 0, deep_body(58, (BAD,), second) + (BAD,)), ("statement", 57))
            self.assertEqual(self.part(1, 1, 0, deep_body(58, (STOP,), second) + (BAD,)), ("statement", 58))
        self.assertEqual(self.part(1, 1, 0, (("if", ZERO, deep_body(39), deep_body(40)),)), ("body",))
        Program(1, 1, 0, (("if", ZERO, deep_body(39), deep_body(39)),))

    def test_deep_things(self):
        for deep in (100, 119, 120):
            self.assertEqual(self.part(1, 1, 0, (nested(deep - 1),)), ("statement", 0))
            self.assertEqual(self.part(1, 1, 0, (("times", 1, (nested(deep - 3),)),)), ("statement", 1))
            self.assertEqual(self.part(1, 1, 0, (("tell", nested(deep - 2)),)), ("statement", 0))


if __name__ == "__main__":
    unittest.main()
