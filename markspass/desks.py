"""A desk, before whose reader tags pass one by one, and may be taken back."""

from markspass.errors import BadLine, BadStep, TooMany
from markspass.questions import MOST_LENGTH
from markspass.questions import is_number, names_of
from markspass.readers import behind_closing, check_reading
from markspass.rows import CLOSING
from markspass.texts import tag_of, text_of, words_of

DONE = "done"


class Desk:
    """Tags that pass before a reader."""

    def __init__(self, question, manner, reader):
        check_reading(question, manner, reader)
        self._question = question
        self._manner = manner
        self._reader = reader
        self._tags = []
        # The reader's states: ahead of all tags, and behind each of them.
        self._states = [0]
        # The marks that are open, outermost first, and those that are closed,
        # in the order of their closings; each a pair of its name and of the
        # state of the question within it.
        self._left_open = []
        self._closed = []
        # For each opening, whether the reader erred at it.
        self._erred = []

    def tag(self, value):
        """Let a tag pass; for an opening, the answer due and the reader's."""
        if not is_number(value, CLOSING, names_of(self._question) - 1):
            raise BadStep("a tag is a name that the question has, or -1")
        if value == CLOSING and len(self._left_open) == 0:
            raise BadStep("no mark is open that could be closed")
        if len(self._tags) == MOST_LENGTH:
            raise TooMany(MOST_LENGTH)
        self._tags.append(value)
        if value == CLOSING:
            self._pass_closing()
            return None
        return self._pass_opening(value)

    def _pass_closing(self):
        """Close the mark that was opened last of those not closed."""
        mark = self._left_open.pop()
        self._closed.append(mark)
        self._states.append(behind_closing(self._manner, self._reader, self._states[-1], mark[0]))

    def _pass_opening(self, name):
        """Open a mark; the answer due and the reader's."""
        steps, answers = self._question
        outer = self._left_open[-1][1] if len(self._left_open) > 0 else 0
        inner = steps[outer][name]
        state, given = self._reader[0][self._states[-1]][name]
        self._left_open.append((name, inner))
        self._states.append(state)
        self._erred.append(given != answers[inner])
        return answers[inner], given

    def back(self):
        """Take the last tag back."""
        if len(self._tags) == 0:
            raise BadStep("there is no tag to take back")
        self._states.pop()
        if self._tags.pop() == CLOSING:
            self._left_open.append(self._closed.pop())
        else:
            self._left_open.pop()
            self._erred.pop()

    @property
    def row(self):
        """The tags that have passed."""
        return tuple(self._tags)

    @property
    def state(self):
        """The state of the reader."""
        return self._states[-1]

    @property
    def wrong(self):
        """The numbers of the openings, from 0, at which the reader erred."""
        return tuple([number for number, erred in enumerate(self._erred) if erred])

    def do(self, line):
        """Do what a line tells, and answer in words."""
        if not isinstance(line, str):
            raise BadLine(0)
        if line == "back":
            self.back()
            return DONE
        if line == "row":
            return text_of(self._tags)
        if line == "state":
            return str(self.state)
        if line == "wrong":
            return words_of(self.wrong)
        return self._do_tag(line)

    def _do_tag(self, sign):
        """Let the tag pass for which a sign stands, and answer in words."""
        tag = tag_of(names_of(self._question), sign) if len(sign) == 1 else None
        if tag is None:
            raise BadLine(0)
        told = self.tag(tag)
        return DONE if told is None else words_of(told)
