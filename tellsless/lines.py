"""Texts as lines, each closed by a line feed."""

from tellsless.errors import BadText


def lines_of(text):
    """The lines of a text, and what stands behind the last line feed."""
    if not isinstance(text, str):
        raise BadText(0)
    parts = text.split("\n")
    return (parts[:-1], parts[-1])


def joined_lines(lines):
    """The text of some lines."""
    return "".join([line + "\n" for line in lines])
