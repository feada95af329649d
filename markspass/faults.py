"""Faults: whether a reader errs in some row, and the least rows in which it does."""

from heapq import heappop, heappush

from markspass.errors import TooMany
from markspass.questions import MOST_LENGTH, names_of
from markspass.readers import behind_closing, check_reading, reading
from markspass.rows import CLOSING, answers_due, is_row


def put_together(length, *parts):
    """The parts as one row of so many tags, None if that is more than a row may have."""
    # The least rows may have more tags than any machine could hold, so such
    # rows are only counted; their parts may be None as well.
    if length > MOST_LENGTH:
        return None
    tags = []
    for part in parts:
        tags.extend(part)
    return tuple(tags)


def marks_behind(opens, found, ends):
    """The ways to put behind the document between these ends a mark around one found."""
    return [
        (ends, name, (pair[0], last))
        for name, pair in enumerate(opens[ends[1]])
        for last in range(len(opens))
        if (pair[0], last) in found
    ]


def marks_around(opens, found, ends):
    """The ways to put a mark around the document between these ends, behind one found."""
    return [
        ((start, state), name, ends)
        for state, pairs in enumerate(opens)
        for name, pair in enumerate(pairs)
        if pair[0] == ends[0]
        for start in range(len(opens))
        if (start, state) in found
    ]


def written(found, length, parts):
    """The document of so many tags of the parts: one found, and a mark with a name around one found."""
    if parts is None:
        return ()
    ahead, name, within = parts
    return put_together(length, found[ahead][1], (name,), found[within][1], (CLOSING,))


def least_documents(manner, reader):
    """For two states of a reader, the length and the tags of the least document from one to the other."""
    opens = reader[0]
    found = {}
    waiting = [(0, (state, state), None) for state in range(len(opens))]
    # A document is longer than its parts, so the shortest that waits is
    # the least between its ends.
    while len(waiting) > 0:
        length, ends, parts = heappop(waiting)
        if ends in found:
            continue
        found[ends] = (length, written(found, length, parts))
        for ahead, name, within in marks_behind(opens, found, ends) + marks_around(opens, found, ends):
            longer = found[ahead][0] + found[within][0] + 2
            goal = (ahead[0], behind_closing(manner, reader, within[1], name))
            heappush(waiting, (longer, goal, (ahead, name, within)))
    return found


def ways_on(question, reader, documents, states):
    """The openings and the least documents that may follow behind a state of the question and of the reader."""
    within, state = states
    ways = [
        (1, (inner, reader[0][state][name][0]), (name,))
        for name, inner in enumerate(question[0][within])
    ]
    for (start, end), (length, tags) in documents.items():
        if start == state:
            ways.append((length, (within, end), tags))
    return ways


def least_rows(question, manner, reader):
    """For a state of the question and one of the reader, the length and the tags of the least row to both."""
    documents = least_documents(manner, reader)
    found = {}
    waiting = [(0, (0, 0), ())]
    while len(waiting) > 0:
        length, states, row = heappop(waiting)
        if states in found:
            continue
        found[states] = (length, row)
        for more, goal, tags in ways_on(question, reader, documents, states):
            heappush(waiting, (length + more, goal, put_together(length + more, row, tags)))
    return found


def least_fault(question, manner, reader):
    """The length and the tags of a least row at the last tag of which a reader errs, None without any."""
    steps, answers = question
    # The shorter rows come first, so the first fault is a least one.
    for (within, state), (length, row) in least_rows(question, manner, reader).items():
        for name, inner in enumerate(steps[within]):
            if reader[0][state][name][1] != answers[inner]:
                return length + 1, put_together(length + 1, row, (name,))
    return None


def short_fault(question, manner, reader):
    """A least row at the last tag of which a reader errs, None without any; TooMany for a longer one."""
    least = least_fault(question, manner, reader)
    if least is None:
        return None
    if least[0] > MOST_LENGTH:
        raise TooMany(MOST_LENGTH)
    return least[1]


def is_right(question, manner, reader):
    """Whether a reader errs at no opening of any row."""
    check_reading(question, manner, reader)
    return least_fault(question, manner, reader) is None


def fault(question, manner, reader):
    """A row of as few tags as can be at the last tag of which a reader errs, None without any."""
    check_reading(question, manner, reader)
    return short_fault(question, manner, reader)


def errs_at_last(question, manner, reader, row):
    """Whether the last tag of a row is an opening at which a reader errs."""
    if row[-1] == CLOSING:
        return False
    return reading(question, manner, reader, row)[-1] != answers_due(question, row)[-1]


def shows_fault(question, manner, reader, value):
    """Whether a value is one that fault may return."""
    check_reading(question, manner, reader)
    least = short_fault(question, manner, reader)
    if value is None:
        return least is None
    if least is None or not is_row(names_of(question), value) or len(value) != len(least):
        return False
    return errs_at_last(question, manner, reader, value)
