"""Point 1: what holds of every function of the package."""

import copy
import unittest

from markspass.alarms import can_ring, first_ring, ring_paper, ring_rows, rings, shows_ring_paper
from markspass.desks import Desk
from markspass.errors import BadForest, BadLine, BadManner, BadNumber, BadPath, BadQuestion, BadReader, BadRow, BadText
from markspass.errors import BadTrap, BadWord
from markspass.faults import fault, is_right, shows_fault
from markspass.joins import both, count_readable, inside, renamed, turned
from markspass.meetings import can_read, fewest_states, meetings, paper, reader_for, shows_paper, shows_reader
from markspass.questions import answer, below_lots, least_question
from markspass.readers import reading
from markspass.ringers import ring_fault, ringer, rings_right, shows_ring_fault, shows_ringer
from markspass.rows import answers_due, forest_of, left_open, row_of, told_forest
from markspass.texts import read_question, read_reader, read_row, write_question, write_reader, write_row
from markspass.traps import shows_trap, trap, trap_rows
from tests.samples import ABOVE, BELL, DEEP, EVEN, NO_TUPLES, OWN, SECOND, TWO, nested

PLAIN = ((((0, 0), (0, 1)),), ((0, 0),))
ROW = (0, 1, -1, -1)
FOREST = ((0, ((1, ()),)),)
TRAP = ((), (1,), (0,))
PAPER = ((), (1,), (1,), (1,), (0,))
RING_PAPER = ((), (0,), (0,), (1,))
DEAF = ((((0, 0),),), ((0,),))


def row_of_a_desk(question, manner, reader):
    """The row of a new desk."""
    return Desk(question, manner, reader).row


# Each function with allowed arguments, and for each argument the error for one that is not allowed.
CALLS = (
    (answer, (ABOVE, (0, 1)), (BadQuestion, BadPath)),
    (least_question, (ABOVE,), (BadQuestion,)),
    (below_lots, (ABOVE,), (BadQuestion,)),
    (left_open, (ABOVE, ROW), (BadQuestion, BadRow)),
    (answers_due, (ABOVE, ROW), (BadQuestion, BadRow)),
    (row_of, (FOREST,), (BadForest,)),
    (forest_of, (ROW,), (BadRow,)),
    (told_forest, (ABOVE, FOREST), (BadQuestion, BadForest)),
    (reading, (ABOVE, "named", PLAIN, ROW), (BadQuestion, BadManner, BadReader, BadRow)),
    (is_right, (ABOVE, "named", PLAIN), (BadQuestion, BadManner, BadReader)),
    (fault, (ABOVE, "named", PLAIN), (BadQuestion, BadManner, BadReader)),
    (shows_fault, (ABOVE, "named", PLAIN, (1, 0)), (BadQuestion, BadManner, BadReader)),
    (meetings, (ABOVE, "named"), (BadQuestion, BadManner)),
    (can_read, (ABOVE, "named"), (BadQuestion, BadManner)),
    (fewest_states, (EVEN, "named"), (BadQuestion, BadManner)),
    (reader_for, (EVEN, "named"), (BadQuestion, BadManner)),
    (shows_reader, (OWN, "named", PLAIN), (BadQuestion, BadManner)),
    (paper, (ABOVE, "named"), (BadQuestion, BadManner)),
    (shows_paper, (ABOVE, "named", PAPER), (BadQuestion, BadManner)),
    (trap, (ABOVE,), (BadQuestion,)),
    (shows_trap, (ABOVE, TRAP), (BadQuestion,)),
    (trap_rows, (ABOVE, TRAP, 2), (BadQuestion, BadTrap, BadNumber)),
    (both, (ABOVE, EVEN, "and"), (BadQuestion, BadQuestion, BadWord)),
    (turned, (ABOVE,), (BadQuestion,)),
    (inside, (ABOVE, 1), (BadQuestion, BadNumber)),
    (renamed, (ABOVE, (1, 0)), (BadQuestion, BadNumber)),
    (count_readable, (2, 2), (BadNumber, BadNumber)),
    (rings, (TWO, (0, 1)), (BadQuestion, BadPath)),
    (first_ring, (TWO, ROW), (BadQuestion, BadRow)),
    (can_ring, (TWO, "named"), (BadQuestion, BadManner)),
    (ring_paper, (TWO, "named"), (BadQuestion, BadManner)),
    (shows_ring_paper, (TWO, "named", RING_PAPER), (BadQuestion, BadManner)),
    (ring_rows, (TWO, "named", RING_PAPER, 2), (BadQuestion, BadManner, BadTrap, BadNumber)),
    (rings_right, (SECOND, "named", BELL), (BadQuestion, BadManner, BadReader)),
    (ring_fault, (SECOND, "named", DEAF), (BadQuestion, BadManner, BadReader)),
    (shows_ring_fault, (SECOND, "named", DEAF, (0, 0)), (BadQuestion, BadManner, BadReader)),
    (ringer, (SECOND, "named"), (BadQuestion, BadManner)),
    (shows_ringer, (SECOND, "named", BELL), (BadQuestion, BadManner)),
    (write_row, (ROW,), (BadRow,)),
    (read_row, (2, "ab))"), (BadNumber, BadText)),
    (write_question, (ABOVE,), (BadQuestion,)),
    (read_question, ("state 0 answer 1 to 0\n",), (BadLine,)),
    (write_reader, (2, "named", PLAIN), (BadNumber, BadManner, BadReader)),
    (read_reader, (1, "named", "state 0 opens 0/1 closes 0\n"), (BadNumber, BadManner, BadLine)),
    (row_of_a_desk, (ABOVE, "named", PLAIN), (BadQuestion, BadManner, BadReader)),
)
# These answer yes or no.
YES_OR_NO = (
    is_right, shows_fault, can_read, shows_reader, shows_paper, shows_trap, rings, can_ring, shows_ring_paper,
    rings_right, shows_ring_fault, shows_ringer,
)
# These have an answer for any value of their last argument.
SHOWING = tuple((function, things) for function, things, _ in CALLS if function.__name__.startswith("shows"))


def is_allowed(thing, value):
    """Whether a value that is none of the wrong kinds may stand in place of an argument."""
    if isinstance(thing, int):
        return isinstance(value, int) and not isinstance(value, bool) and value < 10
    if thing == "ab))":
        return value in ("", "a")
    return value == thing


def put(things, place, value):
    """The tuple with another value at a place."""
    return things[:place] + (value,) + things[place + 1:]


class AllFunctions(unittest.TestCase):
    def test_any_value_may_be_passed_for_any_argument(self):
        for function, things, wrongs in CALLS:
            for place, wrong in enumerate(wrongs):
                for value in NO_TUPLES:
                    if not is_allowed(things[place], value):
                        with self.subTest(function.__name__, place=place, value=value), self.assertRaises(wrong):
                            function(*put(things, place, value))

    def test_deep_values(self):
        deep = nested(DEEP)
        for function, things, wrongs in CALLS:
            for place, wrong in enumerate(wrongs):
                for value in (deep, (deep, deep), ((deep, deep), (0, 1)), (ABOVE[0], deep), (0, deep), [deep]):
                    with self.subTest(function.__name__, place=place), self.assertRaises(wrong):
                        function(*put(things, place, value))

    def test_lists_for_tuples(self):
        for function, things, wrongs in CALLS:
            for place, wrong in enumerate(wrongs):
                if isinstance(things[place], tuple):
                    with self.subTest(function.__name__, place=place), self.assertRaises(wrong):
                        function(*put(things, place, list(things[place])))

    def test_the_leftmost_error_comes_first(self):
        for function, things, wrongs in CALLS:
            for first, wrong in enumerate(wrongs):
                for second in range(first + 1, len(wrongs)):
                    for value in (None, [], True, -7):
                        with self.subTest(function.__name__, first=first, second=second):
                            with self.assertRaises(wrong):
                                function(*put(put(things, first, value), second, value))

    def test_no_argument_is_modified(self):
        lists = [[[0, 1], [1, 1]], [0, 1]]
        dicts = {0: [0, 1], "a": {1: ()}}
        for function, things, wrongs in CALLS:
            for place, wrong in enumerate(wrongs):
                for value in (lists, dicts, (lists, dicts), (dicts, (0, 1))):
                    kept = copy.deepcopy(value)
                    with self.subTest(function.__name__, place=place), self.assertRaises(wrong):
                        function(*put(things, place, value))
                    self.assertEqual(value, kept)

    def test_equal_arguments_have_equal_answers(self):
        for function, things, _ in CALLS:
            first = function(*things)
            self.assertEqual(function(*copy.deepcopy(things)), first)
            self.assertEqual(function(*things), first)

    def test_any_value_may_be_shown(self):
        deep = nested(DEEP)
        values = NO_TUPLES + (deep, (deep, deep), (deep,) * 3, (deep,) * 5, [deep], {0: deep}, ((),), ((), (), ()))
        for function, things in SHOWING:
            self.assertIs(function(*things), True)
            for place, value in enumerate(values):
                with self.subTest(function.__name__, place=place):
                    self.assertIs(function(*things[:-1], value), False)

    def test_no_shown_value_is_modified(self):
        for function, things in SHOWING:
            for value in ([[[0, 1], [1, 1]], [0, 1]], [1, 0], [[], [1], [0]], {0: [0, 1]}, ([1], {"a": [0]})):
                kept = copy.deepcopy(value)
                self.assertIs(function(*things[:-1], value), False)
                self.assertEqual(value, kept)

    def test_answers_are_strings_and_integers_and_tuples_of_them(self):
        def is_plain(value):
            if isinstance(value, tuple):
                return all(is_plain(part) for part in value)
            return isinstance(value, (int, str)) and not isinstance(value, bool)

        for function, things, _ in CALLS:
            if function in YES_OR_NO:
                self.assertIn(repr(function(*things)), ("True", "False"))
            else:
                self.assertTrue(is_plain(function(*things)), function.__name__)
