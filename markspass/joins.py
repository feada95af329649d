"""Questions made of questions, and how many of the small questions can be read."""

from markspass.errors import BadNumber, BadQuestion, BadWord, TooMany
from markspass.meetings import is_readable
from markspass.questions import MOST_NAMES, MOST_STATES
from markspass.questions import are_steps, check_question, is_number, is_path, is_tuple_of, least_from, names_of
from markspass.readers import BLIND, NAMED

MOST_COUNTED_STATES = 3
MOST_COUNTED_NAMES = 2

# For the answers 0 and 0, 0 and 1, 1 and 0, 1 and 1 of the first and the second.
JOINED = {"and": (0, 0, 0, 1), "or": (0, 1, 1, 1), "one": (0, 1, 1, 0), "first": (0, 0, 1, 0)}


def check_second(names, value):
    """Raise BadQuestion if the value is no question of so many names."""
    # Another number of names is a fault of the steps, so it is told ahead of one of the answers.
    if is_tuple_of(value, 2, 2) and are_steps(value[0]) and names_of(value) != names:
        raise BadQuestion("steps")
    check_question(value)


def check_word(value):
    """Raise BadWord if the value is no word by which two answers are joined."""
    if not isinstance(value, str) or value not in JOINED:
        raise BadWord("the word is one of and, or, one, first")


def side_by_side(one, other, word):
    """The question whose states are all pairs of a state of one and a state of the other."""
    many = len(other[0])
    steps = []
    answers = []
    for nexts, told in zip(one[0], one[1]):
        for other_nexts, other_told in zip(other[0], other[1]):
            steps.append(tuple([there * many + other_there for there, other_there in zip(nexts, other_nexts)]))
            answers.append(JOINED[word][2 * told + other_told])
    return tuple(steps), tuple(answers)


def both(one, other, word):
    """The least question that answers by the answers of two, joined by a word."""
    check_question(one)
    check_second(names_of(one), other)
    check_word(word)
    least = least_from(side_by_side(one, other, word), 0)
    if len(least[0]) > MOST_STATES:
        raise TooMany(MOST_STATES)
    return least


def turned(question):
    """The question with the other answers."""
    check_question(question)
    steps, answers = question
    return steps, tuple([1 - told for told in answers])


def inside(question, name):
    """The least question that answers each path as the question does with this name ahead of it."""
    check_question(question)
    if not is_number(name, 0, names_of(question) - 1):
        raise BadNumber("the name is one that the question has")
    return least_from(question, question[0][0][name])


def renamed(question, names):
    """The question for as many new names, each standing for the one at its place."""
    check_question(question)
    if not is_path(names_of(question), names, 1, MOST_NAMES):
        raise BadNumber("the names are a tuple of 1 to 3 names that the question has")
    steps, answers = question
    return tuple([tuple([nexts[name] for name in names]) for nexts in steps]), answers


def all_tuples(things, length):
    """All tuples of so many of the things."""
    found = [()]
    for _ in range(length):
        found = [(*start, thing) for start in found for thing in things]
    return found


def least_counts(states, names):
    """How many questions of so many states and names have each least question."""
    counts = {}
    all_nexts = all_tuples(list(range(states)), names)
    all_answers = all_tuples([0, 1], states)
    for steps in all_tuples(all_nexts, states):
        for answers in all_answers:
            least = least_from((steps, answers), 0)
            counts[least] = counts.get(least, 0) + 1
    return counts


def many_readable(counts, manner):
    """How many of the counted questions can be read by a manner."""
    return sum([counts[least] for least in counts if is_readable(least, manner)])


def count_readable(states, names):
    """How many questions have just so many states and names, can be read by "named", and by "blind"."""
    if not is_number(states, 1, MOST_COUNTED_STATES) or not is_number(names, 1, MOST_COUNTED_NAMES):
        raise BadNumber("the states are from 1 to 3, the names 1 or 2")
    counts = least_counts(states, names)
    return sum(counts.values()), many_readable(counts, NAMED), many_readable(counts, BLIND)
