"""The texts of rows, of questions and of readers."""

from markspass.errors import BadLine, BadNumber, BadText
from markspass.questions import MOST_LENGTH, MOST_NAMES, MOST_STATES
from markspass.questions import check_question, is_number, is_tuple_of
from markspass.readers import check_manner, check_reader, ways_to_close
from markspass.rows import CLOSING, check_row

# The sign of a closing, whose tag is -1, stands last, so each tag is the index of its sign.
SIGNS = "abc)"
CLOSING_SIGN = ")"


def text_of(row):
    """The text of a row that has been checked."""
    return "".join([SIGNS[tag] for tag in row])


def write_row(row):
    """The text of a row."""
    check_row(MOST_NAMES, row)
    return text_of(row)


def check_names(value):
    """Raise BadNumber if the value is no number of names."""
    if not is_number(value, 1, MOST_NAMES):
        raise BadNumber("the number of names is one from 1 to 3")


def tag_of(names, sign):
    """The tag that a sign stands for, None if it stands for none of so many names."""
    if sign == CLOSING_SIGN:
        return CLOSING
    name = SIGNS.find(sign)
    return name if 0 <= name < names else None


def read_row(names, text):
    """The row of so many names that a text tells."""
    check_names(names)
    if not isinstance(text, str):
        raise BadText(None)
    row = []
    left = 0
    for place, sign in enumerate(text):
        tag = tag_of(names, sign)
        if place == MOST_LENGTH or tag is None or (tag == CLOSING and left == 0):
            raise BadText(place)
        left += -1 if tag == CLOSING else 1
        row.append(tag)
    return tuple(row)


def words_of(numbers):
    """The numbers as words, a blank between."""
    return " ".join([str(number) for number in numbers])


def write_question(question):
    """The text of a question, a line for each state."""
    check_question(question)
    lines = [
        f"state {state} answer {told} to {words_of(nexts)}\n"
        for state, (nexts, told) in enumerate(zip(question[0], question[1]))
    ]
    return "".join(lines)


def write_reader(names, manner, reader):
    """The text of a reader of so many names by a manner, a line for each state."""
    check_names(names)
    check_manner(manner)
    check_reader(names, manner, reader)
    lines = []
    for state, (pairs, nexts) in enumerate(zip(reader[0], reader[1])):
        openings = " ".join([f"{there}/{told}" for there, told in pairs])
        lines.append(f"state {state} opens {openings} closes {words_of(nexts)}\n")
    return "".join(lines)


def lines_of(text):
    """The lines of a text, which a newline must end; BadLine for a text without any, and for any other value."""
    if not isinstance(text, str) or text == "":
        raise BadLine(0)
    lines = text.split("\n")
    if lines[-1] != "":
        raise BadLine(len(lines) - 1)
    return lines[:-1]


def number_of(word, many):
    """The number below so many for which a word stands, None if it stands for none."""
    figures = [str(number) for number in range(many)]
    return figures.index(word) if word in figures else None


def numbers_of(words, many):
    """The numbers below so many for which the words stand, None if one of them stands for none."""
    numbers = [number_of(word, many) for word in words]
    return None if None in numbers else tuple(numbers)


def pair_of(word, many):
    """The pair of a next state, of so many, and an answer for which a word stands, None if it stands for none."""
    parts = word.split("/")
    if len(parts) != 2:
        return None
    pair = (number_of(parts[0], many), number_of(parts[1], 2))
    return None if None in pair else pair


def begins(words, state, verb):
    """Whether the words of a line begin as those that tell of a state do."""
    return state < MOST_STATES and words[:3] == ["state", str(state), verb]


def question_state(line, state, many):
    """The next states, of so many, and the answer that a line tells of a state of a question, None if it doesn't."""
    words = line.split(" ")
    if not begins(words, state, "answer") or words[4:5] != ["to"]:
        return None
    told = number_of(words[3], 2)
    nexts = numbers_of(words[5:], many)
    if told is None or not is_tuple_of(nexts, 1, MOST_NAMES):
        return None
    return nexts, told


def read_question(text):
    """The question that a text tells."""
    lines = lines_of(text)
    many = min(len(lines), MOST_STATES)
    steps = []
    answers = []
    for state, line in enumerate(lines):
        told = question_state(line, state, many)
        if told is None or (state > 0 and len(told[0]) != len(steps[0])):
            raise BadLine(state)
        steps.append(told[0])
        answers.append(told[1])
    return tuple(steps), tuple(answers)


def reader_state(names, ways, line, state, many):
    """What a line tells of a state of a reader of so many names, and ways to close, None if it doesn't."""
    words = line.split(" ")
    end = 3 + names
    if not begins(words, state, "opens") or words[end:end + 1] != ["closes"]:
        return None
    pairs = [pair_of(word, many) for word in words[3:end]]
    nexts = numbers_of(words[end + 1:], many)
    if None in pairs or not is_tuple_of(nexts, ways, ways):
        return None
    return tuple(pairs), nexts


def read_reader(names, manner, text):
    """The reader of so many names by a manner that a text tells."""
    check_names(names)
    check_manner(manner)
    lines = lines_of(text)
    many = min(len(lines), MOST_STATES)
    opens = []
    closes = []
    for state, line in enumerate(lines):
        told = reader_state(names, ways_to_close(names, manner), line, state, many)
        if told is None:
            raise BadLine(state)
        opens.append(told[0])
        closes.append(told[1])
    return tuple(opens), tuple(closes)
