"""Programs: a language of houses."""

from tellsless.errors import BadProgram
from tellsless.ratios import is_number
from tellsless.statements import check_body


class Program:
    """A program: how many worlds, cells and houses inside it has, and what it does."""

    def __init__(self, worlds, cells, houses, body):
        if not is_number(worlds, 1, 5):
            raise BadProgram(("worlds",))
        if not is_number(cells, 1, 6):
            raise BadProgram(("cells",))
        if not is_number(houses, 0, 3):
            raise BadProgram(("houses",))
        check_body(cells, houses, body)
        self.worlds = worlds
        self.cells = cells
        self.houses = houses
        self.body = body

    def __eq__(self, other):
        return (
            isinstance(other, Program)
            and self.worlds == other.worlds
            and self.cells == other.cells
            and self.houses == other.houses
            and self.body == other.body
        )
