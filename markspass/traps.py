"""Traps: words that fool every reader by closings that tell the name, with so many states."""

from markspass.errors import BadNumber, BadTrap
from markspass.meetings import clashes, is_readable, path_below, ways_to_states
from markspass.questions import MOST_STATES
from markspass.questions import answer_behind, check_question, is_number, is_path, is_tuple_of
from markspass.questions import least_question, lots_of_least, names_of, state_behind
from markspass.readers import NAMED
from markspass.rows import CLOSING

MOST_TRAP_NAMES = 20

# Every number up to 6 divides it, and it is no less than any: behind so many
# times a word, six states at most go round, and so many times more change nothing.
TIMES = 60


def trap(question):
    """Three paths that are a trap, None if the question can be read by "named"."""
    check_question(question)
    least = least_question(question)
    lots = lots_of_least(least)
    words = clashes(least, NAMED)
    # Both states of a clash come to one state by sixty times their word, so
    # one of them at least isn't alike below with that state.
    for state, other in words:
        word, _ = words[state, other]
        behind = state_behind(least, state, word * TIMES)
        if lots[behind] != lots[state]:
            return ways_to_states(least)[state], word, path_below(least, state, behind)
    return None


def is_trap(question, value):
    """Whether a value is a trap."""
    names = names_of(question)
    if not is_tuple_of(value, 3, 3) or not is_path(names, value[0], 0, MOST_TRAP_NAMES):
        return False
    if not all(is_path(names, part, 1, MOST_TRAP_NAMES) for part in value[1:]):
        return False
    way, word, below = value
    state = state_behind(question, 0, way)
    behind = state_behind(question, state, word * TIMES)
    return answer_behind(question, state, below) != answer_behind(question, behind, below)


def shows_trap(question, value):
    """Whether a value is one that trap may return."""
    check_question(question)
    if value is None:
        return is_readable(least_question(question), NAMED)
    return is_trap(question, value)


def trap_rows(question, value, states):
    """The two rows by which a trap fools every reader by "named" with at most so many states."""
    check_question(question)
    if not is_trap(question, value):
        raise BadTrap("a trap is a way, a word and a path below that is answered unlike")
    if not is_number(states, 1, MOST_STATES):
        raise BadNumber("the number of states is one from 1 to 6")
    way, word, below = value
    closings = (CLOSING,) * (states * len(word))
    return (
        way + word * states + closings + below,
        way + word * (states + TIMES) + closings + below,
    )
