"""Slow ways of one's own to find who rings rightly, straight from the words of the document."""

from itertools import product

from tests.slow import behind_words, least_by_trying, one_longer, put_shorter, read_by_looking_back, walked


def walked_far(question, state, path):
    """The state behind a path of any length from a state."""
    for name in path:
        state = question[0][state][name]
    return state


def rung(question, path):
    """Whether some beginning of a path, not empty, is answered 1."""
    return any(question[1][walked(question, 0, path[:end])] == 1 for end in range(1, len(path) + 1))


def rung_told(question, way, paths):
    """What the quiet question answers to the paths, each with the way ahead of it."""
    return tuple(int(rung(question, way + path)) for path in paths)


def quiet_by_trying(question):
    """The quiet question, and its numbers of lots, by which short paths have a beginning that is answered 1."""
    return least_by_trying(question, rung_told, 1)


def fooled_by_words(quiet, manner, one, other, longest):
    """Whether words of as many names, at most so many, lead from one state to the other, and from that to itself."""
    if manner == "blind":
        pairs = zip(behind_words(quiet, one, longest), behind_words(quiet, other, longest))
        return any(other in states and other in others for states, others in pairs)
    names = range(len(quiet[0][0]))
    words = [word for many in range(longest + 1) for word in product(names, repeat=many)]
    return any(walked(quiet, one, word) == other and walked(quiet, other, word) == other for word in words)


def can_ring_by_words(question, manner, longest):
    """Whether no words of at most so many names fool all readers, as point 14 says it."""
    quiet, lots = quiet_by_trying(question)
    silent = [state for state, answer in enumerate(quiet[1]) if answer == 0]
    return not any(
        lots[one] != lots[other] and fooled_by_words(quiet, manner, one, other, longest)
        for one in silent for other in silent
    )


def due_along(question, row):
    """The answers due in a row of any length, opening by opening."""
    within, due = [0], []
    for tag in row:
        if tag == -1:
            within.pop()
        else:
            within.append(question[0][within[-1]][tag])
            due.append(question[1][within[-1]])
    return tuple(due)


def given_and_state(manner, reader, row):
    """The answers of a reader along a row of any length, and its state behind it."""
    state, pile, given = 0, [], []
    for tag in row:
        if tag == -1:
            name = pile.pop()
            state = reader[1][state][name if manner == "named" else 0]
        else:
            pile.append(tag)
            given.append(reader[0][state][tag][1])
            state = reader[0][state][tag][0]
    return tuple(given), state


def first_one(answers):
    """The number of the first answer 1, None without any."""
    return answers.index(1) if 1 in answers else None


def rings_rightly_in(question, manner, reader, row):
    """Whether a reader rings first just at the first opening of a row where a 1 is due, if there is one."""
    return first_one(due_along(question, row)) == first_one(given_and_state(manner, reader, row)[0])


def is_ring_fault(question, manner, reader, row):
    """Whether a reader first rings wrongly, or wrongly doesn't ring, at the last tag of a row, as point 16 says it."""
    if row == () or row[-1] == -1:
        return False
    due, given = due_along(question, row), read_by_looking_back(manner, reader, row)
    return 1 not in due[:-1] and 1 not in given[:-1] and due[-1] != given[-1]


def least_ring_faults(question, manner, reader, longest):
    """All rows of as few tags as can be, and of at most so many, at the last tag of which a reader rings wrongly."""
    ends = [()]
    for _ in range(longest):
        ends = [longer for row in ends for longer in one_longer(len(question[0][0]), row)]
        found = [row for row in ends if is_ring_fault(question, manner, reader, row)]
        if found:
            return found
    return []


def silent_openings(question, reader):
    """The openings at which no 1 is due and none is given: from where, by which name, to where."""
    return [
        ((within, state), name, (inner, reader[0][state][name][0]))
        for within, nexts in enumerate(question[0]) for name, inner in enumerate(nexts)
        for state in range(len(reader[0]))
        if question[1][inner] == 0 and reader[0][state][name][1] == 0
    ]


def least_ring_fault_length(question, manner, reader):
    """The number of tags of a least row in which a reader rings wrongly, by going round until nothing gets shorter."""
    openings = silent_openings(question, reader)
    states = range(len(reader[0]))
    whole = {((within, state), state): 0 for within in range(len(question[0])) for state in states}
    begun = {(0, 0): 0}
    changed = True
    while changed:
        changed = False
        for outer, name, inner in openings:
            if outer in begun:
                changed = put_shorter(begun, inner, begun[outer] + 1) or changed
            for last in states:
                if (inner, last) in whole:
                    end = reader[1][last][name if manner == "named" else 0]
                    changed = put_shorter(whole, (outer, end), whole[inner, last] + 2) or changed
        for (start, middle), length in list(whole.items()):
            within = start[0]
            if start in begun:
                changed = put_shorter(begun, (within, middle), begun[start] + length) or changed
            for end in states:
                if ((within, middle), end) in whole:
                    longer = length + whole[(within, middle), end]
                    changed = put_shorter(whole, (start, end), longer) or changed
    wrong = [
        length + 1 for (within, state), length in begun.items() for name, inner in enumerate(question[0][within])
        if reader[0][state][name][1] != question[1][inner]
    ]
    return min(wrong, default=None)


def first_answers_in_all(manner, reader, names, longest):
    """For all rows up to a length, whether a reader has rung nowhere, has just rung, or had rung ahead."""
    told = []
    ends = [(0, (), False)]
    for _ in range(longest):
        longer = []
        for state, pile, before in ends:
            if pile:
                told.append(before)
                longer.append((reader[1][state][pile[-1] if manner == "named" else 0], pile[:-1], before))
            for name in range(names):
                there, given = reader[0][state][name]
                told.append(before or given == 1)
                longer.append((there, pile + (name,), before or given == 1))
        ends = longer
    return tuple(told)


def first_dues_in_all(question, longest):
    """For all rows up to a length, whether a 1 has been due, in the order of first_answers_in_all."""
    told = []
    ends = [((0,), False)]
    for _ in range(longest):
        longer = []
        for pile, before in ends:
            if len(pile) > 1:
                told.append(before)
                longer.append((pile[:-1], before))
            for inner in question[0][pile[-1]]:
                told.append(before or question[1][inner] == 1)
                longer.append((pile + (inner,), before or question[1][inner] == 1))
        ends = longer
    return tuple(told)
