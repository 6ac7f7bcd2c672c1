"""Statements, of which programs are made: judged."""

from tellsless.errors import BadProgram
from tellsless.ratios import are_shares, is_number

MOST_STATEMENTS = 2000
MOST_BODIES_DEEP = 40
MOST_DEEP = 8
MOST_ROWS = 12
MOST_TIMES = 6
MOST_MANY = 5
LAST_NUMBER = 99


def is_expression(thing, cells, room):
    """Whether a thing is an E of so many cells that is at most room deep."""
    if room < 1 or not isinstance(thing, tuple) or len(thing) < 2 or not isinstance(thing[0], str):
        return False
    if thing[0] == "cell":
        return len(thing) == 2 and is_number(thing[1], 0, cells - 1)
    if thing[0] == "number":
        return len(thing) == 2 and is_number(thing[1], 0, LAST_NUMBER)
    if thing[0] not in ("plus", "times", "same", "less") or len(thing) != 3:
        return False
    return is_expression(thing[1], cells, room - 1) and is_expression(thing[2], cells, room - 1)


def is_row(thing):
    """Whether a thing is a pair of anything and a value of a cell."""
    return isinstance(thing, tuple) and len(thing) == 2 and is_number(thing[1], 0, LAST_NUMBER)


def are_rows(thing):
    """Whether a thing is what can be tossed."""
    if not isinstance(thing, tuple) or not 1 <= len(thing) <= MOST_ROWS:
        return False
    return all([is_row(row) for row in thing]) and are_shares([row[0] for row in thing])


def is_set(thing, cells, houses):
    """Whether a tuple that begins with "set" is a statement."""
    return len(thing) == 3 and is_number(thing[1], 0, cells - 1) and is_expression(thing[2], cells, MOST_DEEP)


def is_toss(thing, cells, houses):
    """Whether a tuple that begins with "toss" is a statement."""
    return len(thing) == 3 and is_number(thing[1], 0, cells - 1) and are_rows(thing[2])


def is_if(thing, cells, houses):
    """Whether a tuple that begins with "if" is a statement, but for its bodies."""
    return len(thing) == 4 and is_expression(thing[1], cells, MOST_DEEP)


def is_times(thing, cells, houses):
    """Whether a tuple that begins with "times" is a statement, but for its body."""
    return len(thing) == 3 and is_number(thing[1], 0, MOST_TIMES)


def is_tell(thing, cells, houses):
    """Whether a tuple that begins with "tell" is a statement."""
    return len(thing) == 2 and is_expression(thing[1], cells, MOST_DEEP)


def is_ask(thing, cells, houses):
    """Whether a tuple that begins with "ask" is a statement."""
    return len(thing) == 3 and is_number(thing[1], 0, cells - 1) and is_number(thing[2], 1, MOST_MANY)


def is_stop(thing, cells, houses):
    """Whether a tuple that begins with "stop" is a statement."""
    return len(thing) == 1


def is_hear(thing, cells, houses):
    """Whether a tuple that begins with "hear" is a statement."""
    if len(thing) != 4 or not is_number(thing[1], 0, houses - 1):
        return False
    return is_expression(thing[2], cells, MOST_DEEP) and is_number(thing[3], 0, cells - 1)


JUDGES = {
    "set": is_set,
    "toss": is_toss,
    "if": is_if,
    "times": is_times,
    "tell": is_tell,
    "ask": is_ask,
    "stop": is_stop,
    "hear": is_hear,
}


def is_statement(thing, cells, houses):
    """Whether a thing is a statement, whatever stands where its bodies have to stand."""
    if not isinstance(thing, tuple) or len(thing) == 0 or not isinstance(thing[0], str):
        return False
    if thing[0] not in JUDGES:
        return False
    judge = JUDGES[thing[0]]
    return judge(thing, cells, houses)


def bodies_of(statement):
    """The bodies of a statement, in order."""
    if statement[0] == "if":
        return [statement[2], statement[3]]
    if statement[0] == "times":
        return [statement[2]]
    return []


def check_body(cells, houses, body):
    """Raises BadProgram if something in the whole body of a program is wrong.

    All statements are read, also in bodies that are too deep: a wrong one is
    told ahead of all that is wrong with bodies.
    """
    number = 0
    is_right = True
    # What is still to be read, the next thing last: (thing, whether it is a body, how deep).
    unread = [(body, True, 1)]
    while len(unread) > 0:
        thing, is_body, deep = unread.pop()
        if is_body:
            if not isinstance(thing, tuple) or deep > MOST_BODIES_DEEP:
                is_right = False
            if isinstance(thing, tuple):
                unread.extend([(statement, False, deep) for statement in thing[::-1]])
        else:
            if not is_statement(thing, cells, houses):
                raise BadProgram(("statement", number))
            number += 1
            unread.extend([(inner, True, deep + 1) for inner in bodies_of(thing)[::-1]])
    if not is_right or number > MOST_STATEMENTS:
        raise BadProgram(("body",))
