"""Point 1: what holds of every function of the package."""

import copy
import unittest

from markspass.errors import BadForest, BadManner, BadPath, BadQuestion, BadReader, BadRow
from markspass.questions import answer, below_lots, least_question
from markspass.readers import reading
from markspass.rows import answers_due, forest_of, left_open, row_of, told_forest
from tests.samples import ABOVE, DEEP, NO_TUPLES, nested

PLAIN = ((((0, 0), (0, 1)),), ((0, 0),))
ROW = (0, 1, -1, -1)
FOREST = ((0, ((1, ()),)),)

# Each function with allowed arguments, and for each argument the error for one that is not allowed.
CALLS = (
    (answer, (ABOVE, (0, 1)), (BadQuestion, BadPath)),
    (least_question, (ABOVE,), (BadQuestion,)),
    (below_lots, (ABOVE,), (BadQuestion,)),
    (left_open, (ABOVE, ROW), (BadQuestion, BadRow)),
    (answers_due, (ABOVE, ROW), (BadQuestion, BadRow)),
    (row_of, (FOREST,), (BadForest,)),
    (forest_of, (ROW,), (BadRow,)),
    (told_forest, (ABOVE, FOREST), (BadQuestion, BadForest)),
    (reading, (ABOVE, "named", PLAIN, ROW), (BadQuestion, BadManner, BadReader, BadRow)),
)


def put(things, place, value):
    """The tuple with another value at a place."""
    return things[:place] + (value,) + things[place + 1:]


class AllFunctions(unittest.TestCase):
    def test_any_value_may_be_passed_for_any_argument(self):
        for function, things, wrongs in CALLS:
            for place, wrong in enumerate(wrongs):
                for value in NO_TUPLES:
                    if value != things[place]:
                        with self.subTest(function.__name__, place=place, value=value), self.assertRaises(wrong):
                            function(*put(things, place, value))

    def test_deep_values(self):
        deep = nested(DEEP)
        for function, things, wrongs in CALLS:
            for place, wrong in enumerate(wrongs):
                for value in (deep, (deep, deep), ((deep, deep), (0, 1)), (ABOVE[0], deep), (0, deep), [deep]):
                    with self.subTest(function.__name__, place=place), self.assertRaises(wrong):
                        function(*put(things, place, value))

    def test_lists_for_tuples(self):
        for function, things, wrongs in CALLS:
            for place, wrong in enumerate(wrongs):
                if wrong is not BadManner:
                    with self.subTest(function.__name__, place=place), self.assertRaises(wrong):
                        function(*put(things, place, list(things[place])))

    def test_the_leftmost_error_comes_first(self):
        for function, things, wrongs in CALLS:
            for first, wrong in enumerate(wrongs):
                for second in range(first + 1, len(wrongs)):
                    for value in (None, [], True, 7):
                        with self.subTest(function.__name__, first=first, second=second):
                            with self.assertRaises(wrong):
                                function(*put(put(things, first, value), second, value))

    def test_no_argument_is_modified(self):
        lists = [[[0, 1], [1, 1]], [0, 1]]
        dicts = {0: [0, 1], "a": {1: ()}}
        for function, things, wrongs in CALLS:
            for place, wrong in enumerate(wrongs):
                for value in (lists, dicts, (lists, dicts), (dicts, (0, 1))):
                    kept = copy.deepcopy(value)
                    with self.subTest(function.__name__, place=place), self.assertRaises(wrong):
                        function(*put(things, place, value))
                    self.assertEqual(value, kept)

    def test_equal_arguments_have_equal_answers(self):
        for function, things, _ in CALLS:
            first = function(*things)
            self.assertEqual(function(*copy.deepcopy(things)), first)
            self.assertEqual(function(*things), first)

    def test_answers_are_integers_and_tuples_of_them(self):
        def is_plain(value):
            if isinstance(value, tuple):
                return all(is_plain(part) for part in value)
            return isinstance(value, int) and not isinstance(value, bool)

        for function, things, _ in CALLS:
            self.assertTrue(is_plain(function(*things)), function.__name__)
