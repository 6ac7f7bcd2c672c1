"""Room for the answers of a House that is being made."""

from tellsless.errors import TooLarge
from tellsless.houses import MOST_ANSWERS


class Room:
    """How many answers a House that is being made may still get."""

    def __init__(self):
        self.left = MOST_ANSWERS

    def fill(self, many):
        """Uses so much of the room up."""
        if many > self.left:
            raise TooLarge()
        self.left -= many
