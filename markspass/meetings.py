"""States that meet, the readers without a pile that this allows, and the papers that show there is none."""

from markspass.questions import MOST_LENGTH
from markspass.questions import answer_behind, check_question, is_path, is_tuple_of, least_question
from markspass.questions import lots_of_least, names_of, state_behind
from markspass.readers import BLIND, NAMED, check_manner, ways_to_close, wrong_part
from markspass.searches import short_fault


def moves_of(names, manner):
    """The pairs of names by which two words may go on at once."""
    return [
        (name, other)
        for name in range(names)
        for other in range(names)
        if name == other or manner == BLIND
    ]


def one_move_back(steps, moves, found):
    """Two words for each pair of states not found from which one move leads to a pair found."""
    words = {}
    for state, nexts in enumerate(steps):
        for other, other_nexts in enumerate(steps):
            for name, other_name in moves:
                goal = (nexts[name], other_nexts[other_name])
                if (state, other) not in found and goal in found:
                    word, other_word = found[goal]
                    words[state, other] = ((name, *word), (other_name, *other_word))
    return words


def words_to(least, manner, goals):
    """For each pair of states from which two words lead to a pair of the goals, the shortest such words."""
    steps = least[0]
    moves = moves_of(names_of(least), manner)
    found = {goal: ((), ()) for goal in goals}
    farther = one_move_back(steps, moves, found)
    while len(farther) > 0:
        for pair in farther:
            found[pair] = farther[pair]
        farther = one_move_back(steps, moves, found)
    return found


def meeting_words(least, manner):
    """For each pair of states of a least question that meet, in either order, two words to one state."""
    equal_pairs = [(state, state) for state in range(len(least[0]))]
    words = words_to(least, manner, equal_pairs)
    return {pair: words[pair] for pair in words if pair[0] != pair[1]}


def clashes(least, manner):
    """The meeting words of just those pairs of states, in either order, that are not alike below."""
    lots = lots_of_least(least)
    words = meeting_words(least, manner)
    return {pair: words[pair] for pair in words if lots[pair[0]] != lots[pair[1]]}


def is_readable(least, manner):
    """Whether some reader is right for a least question."""
    return len(clashes(least, manner)) == 0


def checked_least(question, manner):
    """The least question, or the error of the first of these arguments that is wrong."""
    check_question(question)
    check_manner(manner)
    return least_question(question)


def meetings(question, manner):
    """The pairs (lesser, greater) of unlike states of the least question that meet, ascending."""
    words = meeting_words(checked_least(question, manner), manner)
    return tuple(sorted([pair for pair in words if pair[0] < pair[1]]))


def can_read(question, manner):
    """Whether some reader, of any number of states, errs at no opening of any row."""
    return is_readable(checked_least(question, manner), manner)


def fewest_of(least, manner):
    """The least number of states of a right reader for a least question, None without any."""
    return max(lots_of_least(least)) + 1 if is_readable(least, manner) else None


def fewest_states(question, manner):
    """The least number of states of a reader that errs nowhere, None if there is none."""
    return fewest_of(checked_least(question, manner), manner)


def reader_of_lots(least, manner):
    """The reader of a readable least question whose states are the lots of those alike below."""
    steps, answers = least
    lots = lots_of_least(least)
    opens = {}
    closes = {}
    # States from which marks lead into one lot meet, so they are of one lot
    # themselves: it doesn't matter which of them is the last to be written.
    for state, nexts in enumerate(steps):
        opens[lots[state]] = tuple([(lots[there], answers[there]) for there in nexts])
        for name, there in enumerate(nexts):
            closes[lots[there], name if manner == NAMED else 0] = lots[state]
    ways = ways_to_close(names_of(least), manner)
    many = max(lots) + 1
    return (
        tuple([opens[lot] for lot in range(many)]),
        tuple([tuple([closes.get((lot, way), 0) for way in range(ways)]) for lot in range(many)]),
    )


def reader_for(question, manner):
    """A reader with as few states as can be that errs nowhere, None if there is none."""
    least = checked_least(question, manner)
    return reader_of_lots(least, manner) if is_readable(least, manner) else None


def shows_reader(question, manner, value):
    """Whether a value is one that reader_for may return."""
    fewest = fewest_of(checked_least(question, manner), manner)
    if value is None:
        return fewest is None
    if wrong_part(names_of(question), manner, value) is not None or len(value[0]) != fewest:
        return False
    return short_fault(question, manner, value) is None


def ways_to_states(least):
    """A way from the first state to each state of a least question."""
    ways = {0: ()}
    # The states are numbered as they first come, so when one has its turn, its way is there.
    for state, nexts in enumerate(least[0]):
        for name, there in enumerate(nexts):
            ways.setdefault(there, (*ways[state], name))
    return ways


def path_below(least, state, other):
    """A path, not empty, that is answered unlike from two states that are not alike below."""
    steps, answers = least
    states = range(len(steps))
    unlike = [(one, two) for one in states for two in states if answers[one] != answers[two]]
    words = words_to(least, NAMED, unlike)
    return min(
        [
            (name, *words[nexts][0])
            for name, nexts in enumerate(zip(steps[state], steps[other]))
            if nexts in words
        ],
        key=len,
    )


def paper(question, manner):
    """Five paths that show that no reader is right, None if the question can be read."""
    least = checked_least(question, manner)
    words = clashes(least, manner)
    if len(words) == 0:
        return None
    state, other = min(list(words))
    ways = ways_to_states(least)
    return (ways[state], ways[other], *words[state, other], path_below(least, state, other))


def are_paths(names, value, many):
    """Whether the value is a tuple of so many paths."""
    return is_tuple_of(value, many, many) and all(is_path(names, part, 0, MOST_LENGTH) for part in value)


def are_words(manner, word, other_word):
    """Whether two paths may be the words by which two states meet."""
    return len(word) == len(other_word) and (manner == BLIND or word == other_word)


def is_paper(least, manner, value):
    """Whether a value is five paths that show that no reader is right."""
    if not are_paths(names_of(least), value, 5):
        return False
    way, other_way, word, other_word, below = value
    if not are_words(manner, word, other_word) or len(below) == 0:
        return False
    state = state_behind(least, 0, way)
    other = state_behind(least, 0, other_way)
    if state_behind(least, state, word) != state_behind(least, other, other_word):
        return False
    return answer_behind(least, state, below) != answer_behind(least, other, below)


def shows_paper(question, manner, value):
    """Whether a value is one that paper may return."""
    least = checked_least(question, manner)
    if value is None:
        return is_readable(least, manner)
    return is_paper(least, manner, value)
