"""Slow ways of one's own to find what the package finds, straight from the words of the document."""

from itertools import product


def paths_to(names, longest):
    """All paths of so many names up to a length, shorter ones first."""
    return [path for length in range(longest + 1) for path in product(range(names), repeat=length)]


def walked(question, state, path):
    """The state behind a path from a state."""
    return state if path == () else walked(question, question[0][state][path[0]], path[1:])


def told(question, way, paths):
    """What the question answers to the paths, each with the way ahead of it."""
    return tuple(question[1][walked(question, 0, way + path)] for path in paths)


def least_by_trying(question, tell=told, more=0):
    """The least question, and its numbers of lots, by what is told of all short paths, with so many states more."""
    names, states = len(question[0][0]), len(question[0]) + more
    paths = paths_to(names, states)
    ways, tellings = [], []
    for way in paths_to(names, states - 1):
        if tell(question, way, paths) not in tellings:
            ways.append(way)
            tellings.append(tell(question, way, paths))
    steps = tuple(
        tuple(tellings.index(tell(question, way + (name,), paths)) for name in range(names)) for way in ways
    )
    belows = [telling[1:] for telling in tellings]
    firsts = sorted({belows.index(below) for below in belows})
    lots = tuple(firsts.index(belows.index(below)) for below in belows)
    return (steps, tuple(telling[0] for telling in tellings)), lots


def all_questions(states, names):
    """All questions of just so many states and names."""
    rows = list(product(range(states), repeat=names))
    for steps in product(rows, repeat=states):
        for answers in product((0, 1), repeat=states):
            yield steps, answers


def closings(row):
    """For each closing, by its place, the name of the mark that is closed."""
    found = {}
    for place, tag in enumerate(row):
        if tag == -1:
            left = 1
            at = place
            while left > 0:
                at -= 1
                left += 1 if row[at] == -1 else -1
            found[place] = row[at]
    return found


def read_by_looking_back(manner, reader, row):
    """What a reader answers, each closing's mark being looked up in the row."""
    state, given, closed = 0, [], closings(row)
    for place, tag in enumerate(row):
        if tag == -1:
            state = reader[1][state][closed[place] if manner == "named" else 0]
        else:
            given.append(reader[0][state][tag][1])
            state = reader[0][state][tag][0]
    return tuple(given)


def one_longer(names, row):
    """All rows of so many names that are longer than a row by a tag."""
    may_close = 2 * row.count(-1) < len(row)
    return [row + (tag,) for tag in range(-1 if may_close else 0, names)]


def rows_to(names, longest):
    """All rows of so many names up to a length."""
    rows = [()]
    start = 0
    for _ in range(longest):
        ends = rows[start:]
        start = len(rows)
        for row in ends:
            rows += one_longer(names, row)
    return rows


def path_behind(row):
    """The names left open behind a row, found by taking out marks without anything within."""
    tags = list(row)
    while -1 in tags:
        place = tags.index(-1)
        del tags[place - 1:place + 1]
    return tuple(tags)


def errs_behind(question, manner, reader, row):
    """Whether the last tag of a row is an opening at which the reader errs."""
    if row == () or row[-1] == -1:
        return False
    due = question[1][walked(question, 0, path_behind(row))]
    return read_by_looking_back(manner, reader, row)[-1] != due


def least_faults(question, manner, reader, longest):
    """All rows of as few tags as can be, and of at most so many, at the last tag of which the reader errs."""
    ends = [()]
    for _ in range(longest):
        ends = [longer for row in ends for longer in one_longer(len(question[0][0]), row)]
        found = [row for row in ends if errs_behind(question, manner, reader, row)]
        if found:
            return found
    return []


def all_readers(states, names, manner):
    """All readers of just so many states and names by a manner."""
    pairs = list(product(product(range(states), range(2)), repeat=names))
    ways = list(product(range(states), repeat=names if manner == "named" else 1))
    for opens in product(pairs, repeat=states):
        for closes in product(ways, repeat=states):
            yield opens, closes


def given_in_all(manner, reader, names, longest):
    """What a reader gives at the last tags of all rows up to a length, one behind another."""
    opens, closes = reader
    given = []
    ends = [(0, ())]
    for _ in range(longest):
        longer = []
        for state, pile in ends:
            if pile:
                longer.append((closes[state][pile[-1] if manner == "named" else 0], pile[:-1]))
            for name in range(names):
                given.append(opens[state][name][1])
                longer.append((opens[state][name][0], pile + (name,)))
        ends = longer
    return tuple(given)


def due_in_all(question, longest):
    """What is due at the last tags of all rows up to a length, in the order of given_in_all."""
    names = len(question[0][0])
    due = []
    ends = [()]
    for _ in range(longest):
        longer = []
        for path in ends:
            if path:
                longer.append(path[:-1])
            for name in range(names):
                due.append(question[1][walked(question, 0, path + (name,))])
                longer.append(path + (name,))
        ends = longer
    return tuple(due)


def least_fault_length(question, manner, reader):
    """The number of tags of a least fault, None without any, by going round until nothing gets shorter."""
    steps, answers = question
    opens, closes = reader
    whole = {(within, state, state): 0 for within in range(len(steps)) for state in range(len(opens))}
    begun = {(0, 0): 0}
    changed = True
    while changed:
        changed = False
        for (within, start, last), length in list(whole.items()):
            for outer, nexts in enumerate(steps):
                for name in range(len(nexts)):
                    end = closes[last][name if manner == "named" else 0]
                    for ahead in range(len(opens)):
                        if nexts[name] == within and opens[ahead][name][0] == start:
                            changed = put_shorter(whole, (outer, ahead, end), length + 2) or changed
            for end in range(len(opens)):
                if (within, last, end) in whole:
                    longer = length + whole[within, last, end]
                    changed = put_shorter(whole, (within, start, end), longer) or changed
            if (within, start) in begun:
                changed = put_shorter(begun, (within, last), begun[within, start] + length) or changed
                for name, there in enumerate(steps[within]):
                    goal = there, opens[start][name][0]
                    changed = put_shorter(begun, goal, begun[within, start] + 1) or changed
    wrong = [
        length + 1 for (within, state), length in begun.items() for name, there in enumerate(steps[within])
        if opens[state][name][1] != answers[there]
    ]
    return min(wrong, default=None)


def put_shorter(lengths, key, length):
    """Put a length in place if there is none or a longer one; whether it was put."""
    if key in lengths and lengths[key] <= length:
        return False
    lengths[key] = length
    return True


def behind_words(question, state, longest):
    """For each number of names up to one, the states to which words of so many names lead."""
    names = range(len(question[0][0]))
    return [{walked(question, state, word) for word in product(names, repeat=many)} for many in range(longest + 1)]


def meets_by_words(least, manner, one, other, longest):
    """Whether two states meet by words of at most so many names."""
    if manner == "blind":
        pairs = zip(behind_words(least, one, longest), behind_words(least, other, longest))
        return any(states & others for states, others in pairs)
    words = paths_to(len(least[0][0]), longest)
    return any(walked(least, one, word) == walked(least, other, word) for word in words)


def meetings_by_words(question, manner, longest):
    """The pairs of states of the least question that meet by words of at most so many names."""
    least = least_by_trying(question)[0]
    states = range(len(least[0]))
    return tuple(
        (one, other) for one in states for other in range(one + 1, len(least[0]))
        if meets_by_words(least, manner, one, other, longest)
    )


def readable_by_words(question, manner, longest):
    """Whether any two states of the least question that meet by such words are alike below."""
    lots = least_by_trying(question)[1]
    return all(lots[one] == lots[other] for one, other in meetings_by_words(question, manner, longest))
