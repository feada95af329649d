"""Searches for the least rows at the last tag of which a reader answers otherwise than is due."""

from heapq import heappop, heappush

from markspass.errors import TooMany
from markspass.questions import MOST_LENGTH
from markspass.readers import behind_closing
from markspass.rows import CLOSING

RUN = "run"
MARK = "mark"

# Where a run begins that is a whole row; all pairs of states are of numbers from 0 on.
BEGINNING = (-1, -1)


def ways_to_go_on(question, reader, silent):
    """For each pair of states, of the question and of the reader, the names to open, and the pairs behind."""
    steps, answers = question
    ways = {}
    for within, nexts in enumerate(steps):
        for state, pairs in enumerate(reader[0]):
            ways[within, state] = [
                (name, (inner, pairs[name][0]))
                for name, inner in enumerate(nexts)
                if not silent or (answers[inner] == 0 and pairs[name][1] == 0)
            ]
    return ways


def ways_to_come(ways):
    """For each pair of states, the pairs from which an opening leads to it, and the names that are opened."""
    back = {pair: [] for pair in ways}
    for outer, openings in ways.items():
        for name, inner in openings:
            back[inner].append((outer, name))
    return back


class Search:
    """A search for the least rows to all pairs of a state of a question and a state of a reader.

    A mark leads from the pair ahead of its opening to the pair behind its closing, a run from a
    pair to a pair by marks, any number of them. A run from BEGINNING on is a row, and may leave
    open what it opens. In a silent search no opening is gone on behind where a 1 is due or given.
    """

    def __init__(self, question, manner, reader, silent):
        self.question = question
        self.manner = manner
        self.reader = reader
        self.ways = ways_to_go_on(question, reader, silent)
        self.ways_back = ways_to_come(self.ways)
        self.lengths = {}
        self.parts = {}
        self.run_starts = {pair: [] for pair in self.ways}
        self.mark_ends = {pair: [] for pair in self.ways}
        self.made = []
        self.waiting = []
        self.put(0, (RUN, BEGINNING, (0, 0)), ())
        for pair in self.ways:
            self.put(0, (RUN, pair, pair), ())

    def put(self, length, key, parts):
        """Let a run or a mark of so many tags, made of these parts, wait for its turn."""
        if key not in self.parts:
            heappush(self.waiting, (length, len(self.made)))
            self.made.append((key, parts))

    def put_longer_run(self, start, middle, end):
        """Put the run that is made of a run and of a mark behind it, both found."""
        run = (RUN, start, middle)
        mark = (MARK, middle, end)
        self.put(self.lengths[run] + self.lengths[mark], (RUN, start, end), (run, mark))

    def go_on_behind_run(self, start, end):
        """Put what is made of a run that has just been found."""
        run = (RUN, start, end)
        length = self.lengths[run]
        self.run_starts[end].append(start)
        for last in self.mark_ends[end]:
            self.put_longer_run(start, end, last)
        if start == BEGINNING:
            for name, inner in self.ways[end]:
                self.put(length + 1, (RUN, BEGINNING, inner), (run, name))
        else:
            for outer, name in self.ways_back[start]:
                state = behind_closing(self.manner, self.reader, end[1], name)
                self.put(length + 2, (MARK, outer, (outer[0], state)), (name, run, CLOSING))

    def go_on_behind_mark(self, start, end):
        """Put what is made of a mark that has just been found."""
        self.mark_ends[start].append(end)
        for first in self.run_starts[start]:
            self.put_longer_run(first, start, end)

    def next_row(self):
        """The pair of states to which the next row leads, the shorter ones coming first, None behind the last."""
        # What is made of parts is no shorter than any of them, so the shortest
        # that waits is a least one between its ends.
        while len(self.waiting) > 0:
            length, number = heappop(self.waiting)
            key, parts = self.made[number]
            if key in self.parts:
                continue
            self.lengths[key] = length
            self.parts[key] = parts
            kind, start, end = key
            if kind == MARK:
                self.go_on_behind_mark(start, end)
                continue
            self.go_on_behind_run(start, end)
            if start == BEGINNING:
                return end
        return None

    def wrong_name(self, pair):
        """A name at whose opening, behind a pair of states, the reader errs, None without any."""
        steps, answers = self.question
        within, state = pair
        for name, inner in enumerate(steps[within]):
            if self.reader[0][state][name][1] != answers[inner]:
                return name
        return None

    def next_fault(self):
        """The pair of states to which the next row leads behind which the reader errs, None without any."""
        pair = self.next_row()
        while pair is not None and self.wrong_name(pair) is None:
            pair = self.next_row()
        return pair

    def tags_to(self, pair):
        """The list of the tags of the row that has been found to a pair of states."""
        # Rows may have more tags than any machine could hold, so they are
        # made of their parts only when they are asked for.
        tags = []
        waiting = [(RUN, BEGINNING, pair)]
        while len(waiting) > 0:
            part = waiting.pop()
            if isinstance(part, int):
                tags.append(part)
            else:
                waiting.extend(self.parts[part][::-1])
        return tags


def errs_nowhere(question, manner, reader, silent=False):
    """Whether a reader errs at no opening of any row."""
    return Search(question, manner, reader, silent).next_fault() is None


def short_fault(question, manner, reader, silent=False):
    """A least row at the last tag of which a reader errs, None without any; TooMany for a longer one."""
    search = Search(question, manner, reader, silent)
    pair = search.next_fault()
    if pair is None:
        return None
    if search.lengths[RUN, BEGINNING, pair] >= MOST_LENGTH:
        raise TooMany(MOST_LENGTH)
    tags = search.tags_to(pair)
    tags.append(search.wrong_name(pair))
    return tuple(tags)
