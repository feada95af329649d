"""The interface: its names, its arguments, and its examples, word for word."""

import ast
import importlib
import inspect
import unittest

ARGUMENTS = {
    "questions": {
        "answer": ["question", "path"], "least_question": ["question"], "below_lots": ["question"],
    },
    "rows": {
        "left_open": ["question", "row"], "answers_due": ["question", "row"], "row_of": ["forest"],
        "forest_of": ["row"], "told_forest": ["question", "forest"],
    },
    "readers": {
        "reading": ["question", "manner", "reader", "row"],
    },
    "faults": {
        "is_right": ["question", "manner", "reader"], "fault": ["question", "manner", "reader"],
        "shows_fault": ["question", "manner", "reader", "value"],
    },
    "meetings": {
        "meetings": ["question", "manner"], "can_read": ["question", "manner"],
        "fewest_states": ["question", "manner"], "reader_for": ["question", "manner"],
        "shows_reader": ["question", "manner", "value"], "paper": ["question", "manner"],
        "shows_paper": ["question", "manner", "value"],
    },
    "traps": {
        "trap": ["question"], "shows_trap": ["question", "value"], "trap_rows": ["question", "value", "states"],
    },
    "joins": {
        "both": ["one", "other", "word"], "turned": ["question"], "inside": ["question", "name"],
        "renamed": ["question", "names"], "count_readable": ["states", "names"],
    },
    "alarms": {
        "rings": ["question", "path"], "first_ring": ["question", "row"], "can_ring": ["question", "manner"],
        "ring_paper": ["question", "manner"], "shows_ring_paper": ["question", "manner", "value"],
        "ring_rows": ["question", "manner", "value", "states"],
    },
    "ringers": {
        "rings_right": ["question", "manner", "reader"], "ring_fault": ["question", "manner", "reader"],
        "shows_ring_fault": ["question", "manner", "reader", "value"], "ringer": ["question", "manner"],
        "shows_ringer": ["question", "manner", "value"],
    },
    "texts": {
        "write_row": ["row"], "read_row": ["names", "text"], "write_question": ["question"],
        "read_question": ["text"], "write_reader": ["names", "manner", "reader"],
        "read_reader": ["names", "manner", "text"],
    },
    "desks": {
        "Desk": ["question", "manner", "reader"],
    },
}

# The methods of the class, with their arguments, and its properties.
METHODS = {"tag": ["self", "value"], "back": ["self"], "do": ["self", "line"]}
PROPERTIES = ["row", "state", "wrong"]

QUESTIONS = """\
>>> from markspass.questions import answer, below_lots, least_question
>>> own, above, even = (((0, 1), (0, 1)), (0, 1)), (((0, 1), (1, 1)), (0, 1)), (((0, 1), (1, 0)), (0, 1))
>>> [answer(even, (1, 0, 1)), answer(above, (1, 0)), least_question((((1, 2), (1, 2), (1, 2)), (0, 0, 1))) == own, \
below_lots(own), below_lots(even)]
[0, 1, True, (0, 0), (0, 1)]
>>> answer(own, (2,))
raises BadPath()
"""

ROWS = """\
>>> from markspass.rows import answers_due, forest_of, left_open, row_of, told_forest
>>> above = (((0, 1), (1, 1)), (0, 1))
>>> [answers_due(above, (0, 1, 0, -1, -1, 0)), left_open(above, (0, 1, 0, -1, -1, 0)), \
forest_of((0, 1, -1, -1, 1, -1)), row_of(((0, ((1, ()),)),)), told_forest(above, ((1, ((0, ()),)),))]
[(0, 1, 1, 0), (0, 0), ((0, ((1, ()),)), (1, ())), (0, 1, -1, -1), ((1, 1, ((0, 1, ()),)),)]
>>> answers_due(above, (0, -1, -1))
raises BadRow(place=2)
"""

READERS = """\
>>> from markspass.readers import reading
>>> above, plain = (((0, 1), (1, 1)), (0, 1)), ((((0, 0), (0, 1)),), ((0, 0),))
>>> reading(above, "named", plain, (1, 0, -1, 1))
(1, 0, 1)
>>> reading(above, "blind", plain, ())
raises BadReader(part='closes')
"""

FAULTS = """\
>>> from markspass.faults import fault, is_right, shows_fault
>>> above, plain = (((0, 1), (1, 1)), (0, 1)), ((((0, 0), (0, 1)),), ((0, 0),))
>>> [fault(above, "named", plain), is_right((((0, 1), (0, 1)), (0, 1)), "named", plain), \
shows_fault(above, "named", plain, (1,))]
[(1, 0), True, False]
"""

MEETINGS = """\
>>> from markspass.meetings import can_read, fewest_states, meetings, paper, reader_for, shows_paper, shows_reader
>>> own, above, even = (((0, 1), (0, 1)), (0, 1)), (((0, 1), (1, 1)), (0, 1)), (((0, 1), (1, 0)), (0, 1))
>>> [meetings(above, "named"), [can_read(even, manner) for manner in ["named", "blind"]], \
[fewest_states(question, "named") for question in [own, above, even]], reader_for(own, "blind")]
[((0, 1),), [True, False], [1, None, 2], ((((0, 0), (0, 1)),), ((0,),))]
>>> [paper(even, "named"), shows_paper(above, "named", ((), (1,), (1,), (1,), (0,))), \
shows_paper(even, "blind", ((), (1,), (0,), (1,), (0,))), shows_reader(above, "named", None)]
[None, True, True, True]
>>> can_read(even, "open")
raises BadManner()
"""

TRAPS = """\
>>> from markspass.traps import shows_trap, trap, trap_rows
>>> above, even = (((0, 1), (1, 1)), (0, 1)), (((0, 1), (1, 0)), (0, 1))
>>> [shows_trap(above, ((), (1,), (0,))), trap(even), trap_rows(above, ((), (1,), (0,)), 2)[0], \
len(trap_rows(above, ((), (1,), (0,)), 2)[1])]
[True, None, (1, 1, -1, -1, 0), 65]
>>> trap_rows(even, ((), (1,), (0,)), 2)
raises BadTrap()
"""

JOINS = """\
>>> from markspass.joins import both, count_readable, inside, renamed, turned
>>> own, above, even = (((0, 1), (0, 1)), (0, 1)), (((0, 1), (1, 1)), (0, 1)), (((0, 1), (1, 0)), (0, 1))
>>> [both(own, above, "and") == own, both(above, above, "one"), turned(own), inside(above, 1), \
renamed(above, (1,)), count_readable(1, 2)]
[True, (((0, 0),), (0,)), (((0, 1), (0, 1)), (1, 0)), (((0, 0),), (1,)), (((1,), (1,)), (0, 1)), (2, 2, 2)]
"""

ALARMS = """\
>>> from markspass.alarms import can_ring, first_ring, ring_paper, ring_rows, rings, shows_ring_paper
>>> two, deep, bell = (((1, 0), (1, 2), (2, 2)), (0, 0, 1)), (((1,), (2,), (2,)), (0, 0, 1)), \
((((1, 0),), ((1, 1),)), ((0,), (0,)))
>>> [can_ring(two, "named"), can_ring(deep, "blind"), rings(deep, (0, 0)), first_ring(two, (1, 0, 1)), \
ring_paper(deep, "named"), shows_ring_paper(two, "named", ((), (0,), (0,), (1,)))]
[False, True, True, 2, None, True]
>>> [ring_rows(two, "named", ((), (0,), (0,), (1,)), 1)[0], \
len(ring_rows(two, "named", ((), (0,), (0,), (1,)), 1)[1])]
[(0, 0, -1, -1, 1), 65]
>>> ring_rows(deep, "named", ((), (0,), (0,), (0,)), 1)
raises BadTrap()
"""

RINGERS = """\
>>> from markspass.ringers import ring_fault, ringer, rings_right, shows_ring_fault, shows_ringer
>>> two, deep, bell = (((1, 0), (1, 2), (2, 2)), (0, 0, 1)), (((1,), (2,), (2,)), (0, 0, 1)), \
((((1, 0),), ((1, 1),)), ((0,), (0,)))
>>> [rings_right(deep, "named", bell), shows_ringer(deep, "blind", bell), \
ring_fault(deep, "blind", ((((0, 0),),), ((0,),))), shows_ring_fault(deep, "blind", bell, (0,)), ringer(two, "blind")]
[True, True, (0, 0), False, None]
>>> ringer((((1,), (2,), (3,), (4,), (0,)), (0, 0, 0, 0, 1)), "named")
raises TooMany(most=4)
"""

TEXTS = """\
>>> from markspass.texts import read_question, read_reader, read_row, write_question, write_reader, write_row
>>> [write_row((0, 1, -1, -1)), read_row(2, "ab))"), write_question((((0, 1), (1, 0)), (0, 1))), \
read_question("state 0 answer 1 to 0\\n"), write_reader(1, "blind", ((((0, 1),),), ((0,),))), \
read_reader(1, "named", "state 0 opens 0/1 closes 0\\n")]
['ab))', (0, 1, -1, -1), 'state 0 answer 0 to 0 1\\nstate 1 answer 1 to 1 0\\n', (((0,),), (1,)), \
'state 0 opens 0/1 closes 0\\n', ((((0, 1),),), ((0,),))]
>>> read_row(1, "a))")
raises BadText(place=2)
>>> read_question("state 0 answer 0 to 1\\n")
raises BadLine(line=0)
"""

DESKS = """\
>>> from markspass.desks import Desk
>>> desk = Desk((((0, 1), (1, 1)), (0, 1)), "named", ((((0, 0), (0, 1)),), ((0, 0),)))
>>> [desk.tag(1), desk.tag(0), desk.wrong, desk.row, desk.state, desk.tag(-1), desk.do("b"), desk.do("row"), \
desk.back(), desk.row]
[(1, 1), (1, 0), (1,), (1, 0), 0, None, '1 1', 'ba)b', None, (1, 0, -1)]
>>> desk.tag(2)
raises BadStep()
"""


def shown(line, names):
    """What an example's line shows: its value, or the error that it raises; None for a statement."""
    if not isinstance(ast.parse(line).body[0], ast.Expr):
        exec(line, names)
        return None
    try:
        return repr(eval(line, names))
    except ValueError as error:
        fields = ", ".join(f"{name}={worth!r}" for name, worth in vars(error).items())
        return f"raises {error.__class__.__name__}({fields})"


class Interface(unittest.TestCase):
    def test_names_and_arguments(self):
        for file, functions in ARGUMENTS.items():
            module = importlib.import_module(f"markspass.{file}")
            for name, arguments in functions.items():
                with self.subTest(name):
                    function = getattr(module, name)
                    self.assertEqual(function.__module__, f"markspass.{file}")
                    self.assertEqual(list(inspect.signature(function).parameters), arguments)

    def test_methods_and_properties(self):
        made = importlib.import_module("markspass.desks").Desk
        for name, arguments in METHODS.items():
            self.assertEqual(list(inspect.signature(vars(made)[name]).parameters), arguments)
        for name in PROPERTIES:
            self.assertIsInstance(vars(made)[name], property)

    def test_examples(self):
        for text in (QUESTIONS, ROWS, READERS, FAULTS, MEETINGS, TRAPS, JOINS, ALARMS, RINGERS, TEXTS, DESKS):
            names = {}
            lines = text.splitlines()
            for place, line in enumerate(lines):
                if line.startswith(">>> "):
                    got = shown(line[4:], names)
                    if got is not None:
                        with self.subTest(line):
                            self.assertEqual(got, lines[place + 1])
