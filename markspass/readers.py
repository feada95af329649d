"""Manners and readers: what they are, and what a reader answers along a row."""

from markspass.errors import BadManner, BadReader
from markspass.questions import MOST_STATES
from markspass.questions import are_numbers, check_question, is_number, is_tuple_of, names_of
from markspass.rows import CLOSING, check_row

NAMED = "named"
BLIND = "blind"


def check_manner(value):
    """Raise BadManner if the value is no manner."""
    if value not in (NAMED, BLIND):
        raise BadManner("a manner is one of the words named and blind")


def is_pair(value, last):
    """Whether the value is a pair of a state up to the last and an answer."""
    return is_tuple_of(value, 2, 2) and is_number(value[0], 0, last) and is_number(value[1], 0, 1)


def are_pairs(value, names, last):
    """Whether the value has a pair of a next state and an answer for each name."""
    return is_tuple_of(value, names, names) and all(is_pair(pair, last) for pair in value)


def are_opens(value, names, most):
    """Whether the value may stand as the opens of a reader of at most so many states."""
    if not is_tuple_of(value, 1, most):
        return False
    last = len(value) - 1
    return all(are_pairs(pairs, names, last) for pairs in value)


def are_closes(value, states, ways):
    """Whether the value may stand as the closes of a reader, so many ways from each state."""
    last = states - 1
    return is_tuple_of(value, states, states) and all(are_numbers(nexts, ways, last) for nexts in value)


def ways_to_close(names, manner):
    """How many ways a reader has to go on from a state at a closing."""
    return names if manner == NAMED else 1


def wrong_part(names, manner, value, most=MOST_STATES):
    """The word that names what is wrong with a reader of so many names by a manner, None if nothing is."""
    if not is_tuple_of(value, 2, 2):
        return "reader"
    opens, closes = value
    if not are_opens(opens, names, most):
        return "opens"
    if not are_closes(closes, len(opens), ways_to_close(names, manner)):
        return "closes"
    return None


def check_reader(names, manner, value, most=MOST_STATES):
    """Raise BadReader if the value is no reader of so many names by a manner."""
    part = wrong_part(names, manner, value, most)
    if part is not None:
        raise BadReader(part)


def check_reading(question, manner, reader, most=MOST_STATES):
    """Raise the error of the first of these arguments that is wrong; the reader has at most so many states."""
    check_question(question)
    check_manner(manner)
    check_reader(names_of(question), manner, reader, most)


def behind_closing(manner, reader, state, name):
    """The state of a reader behind the closing of a mark of that name."""
    nexts = reader[1][state]
    return nexts[name] if manner == NAMED else nexts[0]


def given_along(manner, reader, row):
    """The answers that a reader gives along a row that has been checked, opening by opening."""
    opens = reader[0]
    state = 0
    pile = []
    given = []
    for tag in row:
        if tag == CLOSING:
            state = behind_closing(manner, reader, state, pile.pop())
        else:
            pile.append(tag)
            state, told = opens[state][tag]
            given.append(told)
    return tuple(given)


def reading(question, manner, reader, row):
    """The answers that a reader gives along a row, opening by opening."""
    check_reading(question, manner, reader)
    check_row(names_of(question), row)
    return given_along(manner, reader, row)
