"""Rows of tags, and forests of marks: what they are, and what is due in them."""

from markspass.errors import BadForest, BadRow
from markspass.questions import MOST_LENGTH, MOST_NAMES
from markspass.questions import check_question, is_number, is_tuple_of, names_of

CLOSING = -1
MOST_WITHIN = 40
MOST_MARKS = 1000


def check_row(names, value):
    """Raise BadRow if the value is no row of so many names."""
    if not is_tuple_of(value, 0, MOST_LENGTH):
        raise BadRow(None)
    left = 0
    for place, tag in enumerate(value):
        if not is_number(tag, CLOSING, names - 1) or (tag == CLOSING and left == 0):
            raise BadRow(place)
        left += -1 if tag == CLOSING else 1


def is_row(names, value):
    """Whether the value is a row of so many names."""
    try:
        check_row(names, value)
    except BadRow:
        return False
    return True


def check_document(row):
    """Raise BadRow if a row leaves marks open, or has too many within one another."""
    left = 0
    for place, tag in enumerate(row):
        left += -1 if tag == CLOSING else 1
        if left > MOST_WITHIN:
            raise BadRow(place)
    if left > 0:
        raise BadRow(len(row))


def left_open(question, row):
    """The path of the names of the marks that a row leaves open, outermost first."""
    check_question(question)
    check_row(names_of(question), row)
    pile = []
    for tag in row:
        if tag == CLOSING:
            pile.pop()
        else:
            pile.append(tag)
    return tuple(pile)


def answers_due(question, row):
    """The answers of the question, opening by opening, that are due in a row."""
    check_question(question)
    check_row(names_of(question), row)
    steps, answers = question
    pile = [0]
    due = []
    for tag in row:
        if tag == CLOSING:
            pile.pop()
        else:
            pile.append(steps[pile[-1]][tag])
            due.append(answers[pile[-1]])
    return tuple(due)


def is_mark(names, value):
    """Whether the value is a pair of a name and of what may be a forest."""
    return is_tuple_of(value, 2, 2) and is_number(value[0], 0, names - 1)


def is_forest(names, value):
    """Whether the value is a forest of so many names."""
    # Marks are counted before they are looked at: a small value may hold the
    # same tuple many times over, and be more marks than could be gone through.
    waiting = [(value, MOST_WITHIN)]
    room = MOST_MARKS
    while len(waiting) > 0:
        forest, levels = waiting.pop()
        if not is_tuple_of(forest, 0, room if levels > 0 else 0):
            return False
        room -= len(forest)
        if not all(is_mark(names, mark) for mark in forest):
            return False
        waiting.extend([(mark[1], levels - 1) for mark in forest])
    return True


def check_forest(names, value):
    """Raise BadForest if the value is no forest of so many names."""
    if not is_forest(names, value):
        raise BadForest("a forest is a tuple of pairs of a name and a forest")


def tags_of(forest):
    """The list of the tags of a forest that has been checked."""
    tags = []
    for name, within in forest:
        tags.append(name)
        tags.extend(tags_of(within))
        tags.append(CLOSING)
    return tags


def row_of(forest):
    """The document of a forest."""
    check_forest(MOST_NAMES, forest)
    return tuple(tags_of(forest))


def forest_of(row):
    """The forest of a document."""
    check_row(MOST_NAMES, row)
    check_document(row)
    names = []
    forests = [[]]
    for tag in row:
        if tag == CLOSING:
            within = tuple(forests.pop())
            forests[-1].append((names.pop(), within))
        else:
            names.append(tag)
            forests.append([])
    return tuple(forests[0])


def told_below(question, state, forest):
    """A checked forest with the answers due, read from a state of the question on."""
    steps, answers = question
    told = []
    for name, within in forest:
        there = steps[state][name]
        told.append((name, answers[there], told_below(question, there, within)))
    return tuple(told)


def told_forest(question, forest):
    """The forest in which each mark tells the answer due at its opening, too."""
    check_question(question)
    check_forest(names_of(question), forest)
    return told_below(question, 0, forest)
