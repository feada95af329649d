"""Questions and paths: what they are, and the least question that answers alike."""

from markspass.errors import BadPath, BadQuestion

MOST_STATES = 6
MOST_NAMES = 3
MOST_LENGTH = 2000


def is_number(value, least, most):
    """Whether the value is an integer from least to most; True and False are none."""
    return isinstance(value, int) and not isinstance(value, bool) and least <= value <= most


def is_tuple_of(value, least, most):
    """Whether the value is a tuple of least to most things."""
    return isinstance(value, tuple) and least <= len(value) <= most


def are_numbers(value, many, most):
    """Whether the value is a tuple of just so many numbers from 0 to most."""
    return is_tuple_of(value, many, many) and all(is_number(part, 0, most) for part in value)


def are_steps(value):
    """Whether the value may stand as the steps of a question."""
    if not is_tuple_of(value, 1, MOST_STATES) or not is_tuple_of(value[0], 1, MOST_NAMES):
        return False
    names = len(value[0])
    last = len(value) - 1
    return all(are_numbers(nexts, names, last) for nexts in value)


def check_question(value):
    """Raise BadQuestion if the value is no question."""
    if not is_tuple_of(value, 2, 2):
        raise BadQuestion("question")
    steps, answers = value
    if not are_steps(steps):
        raise BadQuestion("steps")
    if not are_numbers(answers, len(steps), 1):
        raise BadQuestion("answers")


def names_of(question):
    """How many names a question has."""
    return len(question[0][0])


def is_path(names, value, least, most):
    """Whether the value is a path, of so many names to choose from, of least to most names."""
    return is_tuple_of(value, least, most) and are_numbers(value, len(value), names - 1)


def check_path(names, value):
    """Raise BadPath if the value is no path of so many names."""
    if not is_path(names, value, 0, MOST_LENGTH):
        raise BadPath("a path is a tuple of at most 2000 names that the question has")


def state_behind(question, state, path):
    """The state to which the names of a path lead from a state."""
    steps = question[0]
    for name in path:
        state = steps[state][name]
    return state


def answer_behind(question, state, path):
    """The answer of the state to which the names of a path lead from a state."""
    return question[1][state_behind(question, state, path)]


def answer(question, path):
    """The answer, 0 or 1, of the state to which the names of the path lead."""
    check_question(question)
    check_path(names_of(question), path)
    return answer_behind(question, 0, path)


def numbered(keys):
    """A number for each key, alike just for equal keys, as they first come, from 0."""
    numbers = {}
    for key in keys:
        numbers.setdefault(key, len(numbers))
    return tuple([numbers[key] for key in keys])


def lots_behind(steps, lots, state):
    """The lots of the states that follow a state, name by name."""
    return tuple([lots[there] for there in steps[state]])


def alike_lots(question):
    """A number for each state, alike just for states that answer all paths alike."""
    steps, answers = question
    states = range(len(steps))
    lots = numbered(answers)
    # A round that parts no two states is the last that could, so there are
    # never more rounds to go than there are states.
    for _ in states:
        lots = numbered([(lots[state], lots_behind(steps, lots, state)) for state in states])
    return lots


def least_from(question, start):
    """The question with the fewest states that answers all paths as they are answered from a state."""
    steps, answers = question
    lots = alike_lots(question)
    chosen = [start]
    numbers = {lots[start]: 0}
    least_steps = []
    while len(least_steps) < len(chosen):
        nexts = steps[chosen[len(least_steps)]]
        for there in nexts:
            if lots[there] not in numbers:
                numbers[lots[there]] = len(chosen)
                chosen.append(there)
        least_steps.append(tuple([numbers[lots[there]] for there in nexts]))
    return tuple(least_steps), tuple([answers[state] for state in chosen])


def least_question(question):
    """The question with the fewest states that answers all paths alike."""
    check_question(question)
    return least_from(question, 0)


def lots_of_least(least):
    """A number for each state of a least question, alike just for those alike below."""
    # No two states of a least question answer all paths alike, so two are
    # alike below only if each name leads from both to the same state.
    return numbered(least[0])


def below_lots(question):
    """A number for each state of the least question, alike just for those alike below."""
    return lots_of_least(least_question(question))
