"""Point 5: manners and readers, and what a reader answers along a row."""

import unittest
from itertools import product

from markspass.errors import BadManner, BadQuestion, BadReader, BadRow
from markspass.readers import reading
from markspass.rows import answers_due
from tests.samples import ABOVE, EVEN, NO_NUMBERS, NO_TUPLES, ONE_NAME, OWN, THREE_NAMES
from tests.samples import question_values, reader_values, row_values
from tests.slow import read_by_looking_back, rows_to

PLAIN = ((((0, 0), (0, 1)),), ((0, 0),))
PLAIN_BLIND = ((((0, 0), (0, 1)),), ((0,),))
# It counts the openings of name 1 by twos, and takes back what is closed.
PAIRED = ((((0, 0), (1, 1)), ((1, 1), (0, 0))), ((0, 1), (1, 0)))
# Its states are told apart by which name was closed last: 1 by name 0, 2 by name 1.
CLOSED = ((((0, 0), (0, 0)), ((1, 1), (1, 1)), ((2, 0), (2, 1))), ((1, 2), (1, 2), (1, 2)))


def turning(states):
    """A reader by "blind", of one name, that answers 1 at its last state, and goes on by each tag."""
    nexts = [(state + 1) % states for state in range(states)]
    opens = tuple(((there, int(there == 0)),) for there in nexts)
    return opens, tuple((there,) for there in nexts)


class Reading(unittest.TestCase):
    def test_known(self):
        self.assertEqual(reading(ABOVE, "named", PLAIN, ()), ())
        self.assertEqual(reading(ABOVE, "blind", PLAIN_BLIND, (1, 0, -1, 1)), (1, 0, 1))
        self.assertEqual(reading(EVEN, "named", PAIRED, (1, 0, 1, -1, -1, -1, 1)), (1, 1, 0, 1))

    def test_a_closing_tells_the_name_to_named(self):
        self.assertEqual(reading(OWN, "named", CLOSED, (0, -1, 0, 1, -1, 1)), (0, 1, 1, 1))
        self.assertEqual(reading(OWN, "named", CLOSED, (0, 1, -1, 0)), (0, 0, 0))
        self.assertEqual(reading(OWN, "named", CLOSED, (0, 1, -1, -1, 0)), (0, 0, 1))
        self.assertEqual(reading(OWN, "named", CLOSED, (1, 0, -1, -1, 0)), (0, 0, 0))

    def test_a_closing_tells_nothing_to_blind(self):
        self.assertEqual(reading(ONE_NAME, "blind", turning(3), (0, -1, 0, -1, 0, 0)), (0, 1, 0, 1))

    def test_a_reader_may_err(self):
        self.assertEqual(reading(ABOVE, "named", PLAIN, (1, 0)), (1, 0))
        self.assertEqual(answers_due(ABOVE, (1, 0)), (1, 1))

    def test_all_short_rows(self):
        for manner, reader in (("named", PLAIN), ("named", PAIRED), ("named", CLOSED), ("blind", PLAIN_BLIND)):
            for row in rows_to(2, 6):
                self.assertEqual(reading(EVEN, manner, reader, row), read_by_looking_back(manner, reader, row))

    def test_a_right_reader_gives_what_is_due(self):
        for row in rows_to(2, 6):
            self.assertEqual(reading(EVEN, "named", PAIRED, row), answers_due(EVEN, row))

    def test_all_small_readers(self):
        pairs = list(product(range(2), range(2)))
        rows = rows_to(1, 5)
        for opens in product(pairs, repeat=2):
            for closes in product(range(2), repeat=2):
                reader = tuple((pair,) for pair in opens), tuple((there,) for there in closes)
                for manner in ("named", "blind"):
                    for row in rows:
                        told = read_by_looking_back(manner, reader, row)
                        self.assertEqual(reading(ONE_NAME, manner, reader, row), told)

    def test_two_thousand_tags(self):
        self.assertEqual(reading(EVEN, "named", PAIRED, (1,) * 2000), (1, 0) * 1000)
        self.assertEqual(reading(EVEN, "named", PAIRED, (1,) * 1000 + (-1,) * 1000), (1, 0) * 500)

    def test_one_to_six_states(self):
        for states in range(1, 7):
            row = (0,) * states
            self.assertEqual(reading(ONE_NAME, "blind", turning(states), row), (0,) * (states - 1) + (1,))
            self.assertEqual(reading(ONE_NAME, "named", turning(states), row), (0,) * (states - 1) + (1,))
        for manner in ("named", "blind"):
            with self.assertRaises(BadReader) as caught:
                reading(ONE_NAME, manner, turning(7), ())
            self.assertEqual(caught.exception.part, "opens")

    def test_three_names(self):
        reader = ((((0, 0), (0, 1), (0, 1)),), ((0, 0, 0),))
        self.assertEqual(reading(THREE_NAMES, "named", reader, (2, 1, -1, 0)), (1, 1, 0))


class WrongValues(unittest.TestCase):
    def test_bad_manners(self):
        values = NO_TUPLES + ((), ("named",), "Named", "BLIND", "name", "blind ", ["blind"])
        for value in values:
            if value != "named":
                with self.subTest(value=value), self.assertRaises(BadManner):
                    reading(ABOVE, value, PLAIN, ())

    def test_bad_readers(self):
        for manner, ways in (("named", 2), ("blind", 1)):
            for value, part in reader_values(ways):
                with self.subTest(manner, value=str(value)[:80]), self.assertRaises(BadReader) as caught:
                    reading(ABOVE, manner, value, ())
                self.assertEqual(caught.exception.part, part)

    def test_names_are_those_of_the_question(self):
        for names, question in ((1, ONE_NAME), (2, OWN), (3, THREE_NAMES)):
            for many in range(5):
                opens = (((0, 1),) * many,)
                for manner, closes in (("named", ((0,) * many,)), ("blind", ((0,),))):
                    if many == names:
                        self.assertEqual(reading(question, manner, (opens, closes), (0,)), (1,))
                        continue
                    with self.subTest(manner, names=names, many=many), self.assertRaises(BadReader) as caught:
                        reading(question, manner, (opens, closes), ())
                    self.assertEqual(caught.exception.part, "opens")

    def test_readers_by_the_other_manner(self):
        for manner, reader in (("blind", PLAIN), ("named", PLAIN_BLIND)):
            with self.assertRaises(BadReader) as caught:
                reading(ABOVE, manner, reader, ())
            self.assertEqual(caught.exception.part, "closes")

    def test_bad_rows(self):
        for value, place in row_values(2):
            with self.subTest(value=str(value)[:60]), self.assertRaises(BadRow) as caught:
                reading(ABOVE, "named", PLAIN, value)
            self.assertEqual(caught.exception.place, place)

    def test_bad_questions(self):
        for value, part in question_values():
            with self.subTest(value=str(value)[:60]), self.assertRaises(BadQuestion) as caught:
                reading(value, "named", PLAIN, ())
            self.assertEqual(caught.exception.part, part)

    def test_the_leftmost_error_comes_first(self):
        with self.assertRaises(BadQuestion):
            reading(None, None, None, None)
        with self.assertRaises(BadManner):
            reading(ABOVE, None, None, None)
        with self.assertRaises(BadReader):
            reading(ABOVE, "named", None, None)
        with self.assertRaises(BadQuestion):
            reading(None, "open", PLAIN, ())
        with self.assertRaises(BadManner):
            reading(ABOVE, "open", PLAIN, (-1,))
        with self.assertRaises(BadReader):
            reading(ABOVE, "blind", PLAIN, (-1,))
