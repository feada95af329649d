"""Values that several tests use: questions and readers, also drawn ones, and values of every other kind."""

import random

OWN = (((0, 1), (0, 1)), (0, 1))
ABOVE = (((0, 1), (1, 1)), (0, 1))
EVEN = (((0, 1), (1, 0)), (0, 1))
ONE_NAME = (((1,), (0,)), (0, 1))
THREE_NAMES = (((0, 1, 2), (1, 2, 0), (2, 0, 1)), (0, 1, 1))
SIX_STATES = (((1, 0), (2, 0), (3, 0), (4, 0), (5, 0), (5, 0)), (0, 0, 0, 0, 0, 1))

# Neither name leads from two states to one, so no two meet by "named"; by "blind" all of them do.
RING = (((1, 2), (2, 3), (3, 4), (4, 5), (5, 0), (0, 1)), (0, 0, 0, 0, 0, 1))
# Its last two states can't be reached.
UNREACHED = (((0, 1), (1, 1), (2, 3), (3, 0)), (0, 1, 1, 0))

# A reader of six states that errs, where only the answer 0 is due, at no row of less than 93 tags.
ZERO = (((0, 0, 0),), (0,))
LATE = (
    (
        ((4, 0), (0, 0), (0, 0)), ((4, 0), (3, 0), (4, 0)), ((1, 0), (0, 0), (4, 0)),
        ((4, 0), (2, 0), (1, 0)), ((4, 0), (4, 0), (4, 0)), ((0, 0), (4, 0), (1, 1)),
    ),
    ((5, 4, 1), (2, 2, 4), (3, 4, 3), (3, 1, 0), (4, 4, 4), (3, 0, 2)),
)

# A 1 is first due at a mark of name 1 below one of name 0; at the second of marks within one another; at the sixth.
TWO = (((1, 0), (1, 2), (2, 2)), (0, 0, 1))
SECOND = (((1,), (2,), (2,)), (0, 0, 1))
SIXTH = (((1,), (2,), (3,), (4,), (5,), (0,)), (1, 0, 0, 0, 0, 0))
# A reader that rings rightly for SECOND, by either manner.
BELL = ((((1, 0),), ((1, 1),)), ((0,), (0,)))

# Readers by "named" that answer 1, where it is never due, at the last of 2000, 2001 and 25460 tags, but of no fewer.
RINGS_BEHIND_2000 = (
    (
        ((1, 0), (7, 0), (4, 0)), ((4, 0), (3, 0), (4, 0)), ((1, 0), (6, 0), (4, 0)), ((1, 0), (2, 0), (4, 0)),
        ((4, 0), (4, 0), (4, 0)), ((6, 0), (3, 0), (0, 1)), ((1, 0), (6, 0), (7, 0)), ((4, 0), (4, 0), (8, 0)),
        ((4, 0), (2, 0), (9, 0)), ((4, 0), (2, 0), (10, 0)), ((10, 0), (0, 0), (4, 0)),
    ),
    (
        (6, 4, 4), (4, 2, 0), (3, 4, 3), (0, 1, 4), (4, 4, 4), (5, 4, 1), (0, 2, 7), (9, 0, 6), (7, 9, 7),
        (10, 8, 3), (3, 5, 4),
    ),
)
RINGS_BEHIND_2001 = (
    (
        ((1, 0), (7, 0), (1, 0)), ((4, 0), (3, 0), (4, 0)), ((1, 0), (6, 0), (4, 0)), ((4, 0), (2, 0), (4, 0)),
        ((4, 0), (4, 0), (4, 0)), ((0, 0), (3, 0), (4, 1)), ((4, 0), (1, 0), (7, 0)), ((1, 0), (2, 0), (8, 0)),
        ((9, 0), (7, 0), (9, 0)), ((3, 0), (10, 0), (4, 0)), ((6, 0), (8, 0), (2, 0)),
    ),
    (
        (6, 4, 4), (4, 2, 4), (3, 4, 3), (0, 1, 0), (4, 4, 4), (7, 9, 4), (2, 4, 7), (9, 4, 4), (10, 2, 7),
        (1, 6, 8), (5, 4, 4),
    ),
)
RINGS_BEHIND_25460 = (
    (
        ((4, 0), (2, 0), (9, 0)), ((4, 0), (8, 0), (4, 0)), ((1, 0), (10, 0), (4, 0)), ((4, 0), (7, 0), (1, 0)),
        ((4, 0), (4, 0), (4, 0)), ((5, 0), (7, 0), (13, 1)), ((11, 0), (0, 0), (4, 0)), ((4, 0), (2, 0), (1, 0)),
        ((3, 0), (4, 0), (4, 0)), ((4, 0), (11, 0), (12, 0)), ((4, 0), (11, 0), (0, 0)), ((6, 0), (7, 0), (9, 0)),
        ((4, 0), (13, 0), (1, 0)), ((13, 0), (7, 0), (10, 0)),
    ),
    (
        (7, 4, 4), (4, 2, 4), (3, 4, 3), (4, 1, 0), (4, 4, 4), (11, 7, 11), (11, 7, 9), (8, 4, 0), (12, 4, 7),
        (13, 4, 4), (7, 4, 11), (6, 4, 2), (10, 3, 4), (9, 12, 5),
    ),
)

# None of these is a tuple; an integer, True and False stand among them.
NO_TUPLES = (
    None, True, False, 0, 1, -1, 2, 10 ** 30, "", "a", "named", "question",
    [], [0], [0, 1], [[0, 1], [0, 1]], [((0, 1), (0, 1)), (0, 1)], {}, {0: 1}, {"a": (0, 1)},
)

# None of these is a number from 0 on.
NO_NUMBERS = (None, True, False, -1, -2, "", "0", "1", (), (0,), [], [0], {}, {0: 0}, -10 ** 30)

# More levels than Python's own calls may have.
DEEP = 50000


def nested(levels):
    """A forest of so many marks, each within the one before it."""
    forest = ()
    for _ in range(levels):
        forest = ((0, forest),)
    return forest


def chained(states):
    """A question of one name and so many states, one behind another, the last being answered 1."""
    steps = tuple((min(state + 1, states - 1),) for state in range(states))
    return steps, tuple(int(state == states - 1) for state in range(states))


def drawn_question(draw, states, names):
    """A question of so many states and names, drawn."""
    steps = tuple(tuple(draw.randrange(states) for _ in range(names)) for _ in range(states))
    return steps, tuple(draw.randrange(2) for _ in range(states))


def drawn_reader(draw, states, names, manner):
    """A reader of so many states and names by a manner, drawn."""
    ways = names if manner == "named" else 1
    opens = tuple(
        tuple((draw.randrange(states), draw.randrange(2)) for _ in range(names)) for _ in range(states)
    )
    return opens, tuple(tuple(draw.randrange(states) for _ in range(ways)) for _ in range(states))


def drawn_questions(seed, many, states=range(1, 7), names=range(1, 4)):
    """So many questions, drawn, of numbers of states and names that are drawn, too."""
    draw = random.Random(seed)
    return [drawn_question(draw, draw.choice(states), draw.choice(names)) for _ in range(many)]


def question_values():
    """Pairs of a value that is no question and the part that names what is wrong."""
    pairs = [(value, "question") for value in NO_TUPLES]
    pairs += [(value, "question") for value in ((), (((0, 1),),), (((0, 1),), (0,), (0,)))]
    pairs += [((value, (0, 1)), "steps") for value in NO_TUPLES]
    row = (0, 1)
    pairs += [
        (((), ()), "steps"),
        (chained(7), "steps"),
        (((row,) * 7, (0,) * 7), "steps"),
        ((((), ()), (0, 1)), "steps"),
        ((((0,) * 4,), (0,)), "steps"),
        ((((0,), (0, 1)), (0, 1)), "steps"),
        ((((0, 1), (0,)), (0, 1)), "steps"),
        ((((0, 1), (0, 1, 1)), (0, 1)), "steps"),
        ((((0, 2), (0, 1)), (0, 1)), "steps"),
        ((((0, 1), (0, 2)), (0, 1)), "steps"),
        (((row, [0, 1]), row), "steps"),
        ((([0, 1], row), row), "steps"),
        (((row, None), row), "steps"),
        (("ab", row), "steps"),
        ((((2,), (0,)), (0, 7)), "steps"),
        (((), None), "steps"),
        ((None, None), "steps"),
    ]
    pairs += [((((0, 1), (0, value)), (0, 1)), "steps") for value in NO_NUMBERS]
    pairs += [((((value, 1), (0, 1)), (0, 1)), "steps") for value in NO_NUMBERS]
    pairs += [(((row, row), value), "answers") for value in NO_TUPLES]
    pairs += [(((row, row), value), "answers") for value in ((), (0,), (0, 1, 1), (0, 2), (2, 0))]
    pairs += [(((row, row), (0, value)), "answers") for value in NO_NUMBERS]
    pairs += [(((row, row), (value, 1)), "answers") for value in NO_NUMBERS]
    return pairs


def path_values(names):
    """Values that are no path of so many names."""
    values = list(NO_TUPLES) + [(value,) for value in NO_NUMBERS] + [(0, value) for value in NO_NUMBERS]
    return values + [(names,), (0,) * 1999 + (names,), (0,) * 2001, (0, (0,)), ((0, 0),)]


def row_values(names):
    """Pairs of a value that is no row of so many names and the place of what is wrong."""
    pairs = [(value, None) for value in NO_TUPLES]
    pairs += [((0,) * 2001, None), ((0, -1) * 1000 + (0,), None), ((names,) * 2001, None), ((-1,) * 2001, None)]
    pairs += [((value,), 0) for value in NO_NUMBERS]
    pairs += [((0, 0, value, -1), 2) for value in NO_NUMBERS if value != -1]
    pairs += [((0, 0, -1, -1, value), 4) for value in NO_NUMBERS]
    pairs += [
        ((names,), 0),
        ((0, 0, names), 2),
        ((-1,), 0),
        ((-1, names), 0),
        ((0, -1, -1), 2),
        ((0, -1, -1, 0), 2),
        ((0, -1, -1, names), 2),
        ((names, -1, -1), 0),
        ((0, -1, names, -1), 2),
        ((0,) * 1999 + (names,), 1999),
        ((0, -1) * 999 + (-1, 0), 1998),
    ]
    return pairs


def forest_values(names):
    """Values that are no forest of so many names."""
    values = list(NO_TUPLES)
    values += [(value,) for value in NO_TUPLES]
    values += [((value, ()),) for value in NO_NUMBERS + (names,)]
    values += [((0, ((value, ()),)),) for value in NO_NUMBERS + (names,)]
    values += [((0, ()), (value, ())) for value in NO_NUMBERS + (names,)]
    values += [((0, value),) for value in NO_TUPLES]
    values += [((0, ((0, value),)),) for value in NO_TUPLES]
    values += [((0, ()), (0, ()), value) for value in NO_TUPLES]
    values += [
        (0, ()),
        ((),),
        ((0,),),
        ((0, (), ()),),
        ((0, ()), [0, ()]),
        nested(41),
        nested(DEEP),
        ((0, ()),) + nested(41),
        ((0, ()),) * 1001,
        ((0, ((0, ()),)),) * 501,
        ((0, ((0, ()),) * 1000),),
    ]
    doubled = ((0, ()),)
    for _ in range(39):
        doubled = ((0, doubled), (0, doubled))
    return values + [doubled]


def reader_values(ways, most=6):
    """Pairs of a value that is no reader of two names, so many ways to close and states at most, and its part."""
    opens = (((0, 0), (1, 1)), ((1, 1), (0, 0)))
    closes = ((0,) * ways, (1,) * ways)
    pairs = [(value, "reader") for value in NO_TUPLES]
    pairs += [(value, "reader") for value in ((), (opens,), (opens, closes, closes))]
    pairs += [((value, closes), "opens") for value in NO_TUPLES]
    pairs += [((value, None), "opens") for value in NO_TUPLES]
    pairs += [(((opens[0], value), closes), "opens") for value in NO_TUPLES]
    pairs += [(((opens[0], ((0, 0), value)), closes), "opens") for value in NO_TUPLES]
    pairs += [(((opens[0], ((0, 0), (value, 0))), closes), "opens") for value in NO_NUMBERS + (2,)]
    pairs += [(((opens[0], ((0, 0), (0, value))), closes), "opens") for value in NO_NUMBERS + (2,)]
    pairs += [
        (((), ()), "opens"),
        ((opens + opens[:1] * (most - 1), closes + closes[:1] * (most - 1)), "opens"),
        ((((((0, 0),)),), ((0,) * ways,)), "opens"),
        (((((0, 0),),), ((0,) * ways,)), "opens"),
        (((((0, 0),) * 3,), ((0,) * ways,)), "opens"),
        (((((0, 0),) * 2, ((0, 0),) * 3), closes), "opens"),
        ((((),), ((),)), "opens"),
        (((((0, 0), (0,)),), ((0,) * ways,)), "opens"),
        (((((0, 0), (0, 0, 0)),), ((0,) * ways,)), "opens"),
        (((((0, 0), (1, 0)),), ((0,) * ways,)), "opens"),
        (((((0, 0), (1, 0)),), None), "opens"),
    ]
    pairs += [((opens, value), "closes") for value in NO_TUPLES]
    pairs += [((opens, (closes[0], value)), "closes") for value in NO_TUPLES]
    pairs += [((opens, (closes[0], (0,) * (ways - 1) + (value,))), "closes") for value in NO_NUMBERS + (2,)]
    pairs += [((opens, value), "closes") for value in ((), closes[:1], closes + closes[:1])]
    pairs += [((opens, (closes[0], (0,) * many)), "closes") for many in range(4) if many != ways]
    pairs += [((opens, ((0,) * many, closes[1])), "closes") for many in range(4) if many != ways]
    return pairs
