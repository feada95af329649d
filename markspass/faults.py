"""Faults: whether a reader errs in some row, and the least rows in which it does."""

from markspass.questions import names_of
from markspass.readers import check_reading, given_along
from markspass.rows import CLOSING, answers_due, is_row
from markspass.searches import errs_nowhere, short_fault


def is_right(question, manner, reader):
    """Whether a reader errs at no opening of any row."""
    check_reading(question, manner, reader)
    return errs_nowhere(question, manner, reader)


def fault(question, manner, reader):
    """A row of as few tags as can be at the last tag of which a reader errs, None without any."""
    check_reading(question, manner, reader)
    return short_fault(question, manner, reader)


def is_fault(question, manner, reader, row):
    """Whether the last tag of a row is an opening at which a reader errs."""
    if row[-1] == CLOSING:
        return False
    return given_along(manner, reader, row)[-1] != answers_due(question, row)[-1]


def shows_fault(question, manner, reader, value):
    """Whether a value is one that fault may return."""
    check_reading(question, manner, reader)
    least = short_fault(question, manner, reader)
    if value is None:
        return least is None
    if least is None or not is_row(names_of(question), value) or len(value) != len(least):
        return False
    return is_fault(question, manner, reader, value)
