"""Disks: cells that stay when the power fails."""

from tellsless.errors import NoNumber, Stopped
from tellsless.ratios import is_integral


class Disk:
    """Cells, at first none; the power may let so many more writes alone."""

    def __init__(self):
        self.held = {}
        self.done = 0
        self.more = None

    def cells(self):
        """A new dict of the cells."""
        return {cell: self.held[cell] for cell in self.held}

    def write(self, cell, thing):
        """Writes a cell; raises Stopped if no more writes are let."""
        if self.more == 0:
            raise Stopped()
        # First of all: a cell that no dict can have changes nothing.
        self.held[cell] = thing
        self.done += 1
        if self.more is not None:
            self.more -= 1

    def power(self, writes):
        """Lets so many more writes from now on, any number for None."""
        if writes is not None and (not is_integral(writes) or writes < 0):
            raise NoNumber()
        self.more = writes

    def written(self):
        """How many writes were done."""
        return self.done
