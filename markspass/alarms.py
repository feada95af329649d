"""Ringing at the first mark that is answered 1: whether some reader can, and the papers that show that none can."""

from markspass.errors import BadNumber, BadTrap
from markspass.meetings import are_paths, are_words, path_below, ways_to_states, words_to
from markspass.questions import MOST_STATES
from markspass.questions import answer_behind, check_path, check_question, is_number, least_from, lots_of_least
from markspass.questions import names_of, state_behind
from markspass.readers import check_manner
from markspass.rows import CLOSING, answers_due
from markspass.traps import TIMES


def quiet_from(question):
    """The least question that answers 1 just to the paths of which some beginning, not empty, is answered 1."""
    steps, answers = question
    rung = len(steps)
    # What the first state itself is answered doesn't matter: the empty path
    # doesn't count, and behind another path it would have been rung before.
    quiet_steps = [tuple([rung if answers[there] == 1 else there for there in nexts]) for nexts in steps]
    quiet_steps.append((rung,) * names_of(question))
    return least_from((tuple(quiet_steps), (0,) * rung + (1,)), 0)


def rings(question, path):
    """Whether some beginning of a path, not empty, is answered 1."""
    check_question(question)
    check_path(names_of(question), path)
    return answer_behind(quiet_from(question), 0, path) == 1


def first_ring(question, row):
    """The number of the first opening of a row where a 1 is due, None without any."""
    for number, due in enumerate(answers_due(question, row)):
        if due == 1:
            return number
    return None


def confusions(quiet, manner):
    """For each two silent states, not alike below, that no reader tells apart, the words by which it is fooled.

    The one word leads from the first state to the second, the other from the second to itself.
    """
    answers = quiet[1]
    lots = lots_of_least(quiet)
    found = {}
    # Nothing leads back from the state that isn't silent, so the words to a
    # silent state lead through silent states alone.
    for state, told in enumerate(answers):
        words = words_to(quiet, manner, [(state, state)]) if told == 0 else {}
        for first, second in words:
            if second == state and lots[first] != lots[second]:
                found[first, second] = words[first, second]
    return found


def is_ringable(quiet, manner):
    """Whether some reader rings rightly for the question of which this is the quiet one."""
    return len(confusions(quiet, manner)) == 0


def checked_quiet(question, manner):
    """The quiet question, or the error of the first of these arguments that is wrong."""
    check_question(question)
    check_manner(manner)
    return quiet_from(question)


def can_ring(question, manner):
    """Whether some reader, of any number of states, rings rightly."""
    return is_ringable(checked_quiet(question, manner), manner)


def ring_paper(question, manner):
    """Four paths that show that no reader rings rightly, None if some reader does."""
    quiet = checked_quiet(question, manner)
    words = confusions(quiet, manner)
    if len(words) == 0:
        return None
    state, other = min(list(words))
    return (ways_to_states(quiet)[state], *words[state, other], path_below(quiet, state, other))


def is_ring_paper(quiet, manner, value):
    """Whether a value is four paths that show that no reader rings rightly."""
    if not are_paths(names_of(quiet), value, 4):
        return False
    way, word, other_word, below = value
    if not are_words(manner, word, other_word) or len(word) == 0 or len(below) == 0:
        return False
    state = state_behind(quiet, 0, way)
    other = state_behind(quiet, state, word)
    if state_behind(quiet, other, other_word) != other or quiet[1][other] == 1:
        return False
    return answer_behind(quiet, state, below) != answer_behind(quiet, other, below)


def shows_ring_paper(question, manner, value):
    """Whether a value is one that ring_paper may return."""
    quiet = checked_quiet(question, manner)
    if value is None:
        return is_ringable(quiet, manner)
    return is_ring_paper(quiet, manner, value)


def ring_rows(question, manner, value, states):
    """The two rows in one of which every reader of at most so many states rings wrongly."""
    quiet = checked_quiet(question, manner)
    if not is_ring_paper(quiet, manner, value):
        raise BadTrap("a trap is a way, two words and a path below that tells where they lead")
    if not is_number(states, 1, MOST_STATES):
        raise BadNumber("the number of states is one from 1 to 6")
    way, word, other_word, below = value
    closings = (CLOSING,) * ((states + 1) * len(word))
    return (
        way + word + other_word * states + closings + below,
        way + word + other_word * (states + TIMES) + closings + below,
    )
