"""Point 6: right readers, and the least rows in which a reader errs."""

import random
import unittest
from unittest import mock

from markspass.errors import BadManner, BadQuestion, BadReader, TooMany
from markspass.faults import fault, is_right, shows_fault
from markspass.meetings import can_read, reader_for
from markspass.readers import reading
from markspass.rows import answers_due
from tests.samples import ABOVE, DEEP, EVEN, LATE, NO_NUMBERS, NO_TUPLES, ONE_NAME, OWN, RING, SIX_STATES
from tests.samples import THREE_NAMES, ZERO
from tests.samples import drawn_question, drawn_questions, drawn_reader, nested, question_values, reader_values
from tests.slow import all_questions, all_readers, errs_behind, least_fault_length, least_faults, rows_to

MANNERS = ("named", "blind")
PLAIN = ((((0, 0), (0, 1)),), ((0, 0),))
PLAIN_BLIND = ((((0, 0), (0, 1)),), ((0,),))
PAIRED = ((((0, 0), (1, 1)), ((1, 1), (0, 0))), ((0, 1), (1, 0)))


def changed(things, place, value):
    """The tuple with another value at a place."""
    return things[:place] + (value,) + things[place + 1:]


class Faults(unittest.TestCase):
    def hold_against_all_rows(self, question, manner, reader, longest):
        """Hold fault, is_right and shows_fault against all rows up to a length."""
        wrong = least_faults(question, manner, reader, longest)
        found = fault(question, manner, reader)
        self.assertIs(is_right(question, manner, reader), found is None)
        self.assertIs(shows_fault(question, manner, reader, None), found is None)
        if wrong:
            self.assertIn(found, wrong)
        elif found is not None:
            self.assertGreater(len(found), longest)
            self.assertTrue(errs_behind(question, manner, reader, found))
        return wrong

    def hold_shown_rows(self, question, manner, reader, wrong):
        """Hold shows_fault against the rows that are least faults, for all rows of a tag more, and fewer."""
        for row in rows_to(len(question[0][0]), len(wrong[0]) + 1 if wrong else 3):
            self.assertIs(shows_fault(question, manner, reader, row), row in wrong)

    def test_known(self):
        self.assertEqual(fault(ABOVE, "named", PLAIN), (1, 0))
        self.assertEqual(fault(ABOVE, "blind", PLAIN_BLIND), (1, 0))
        self.assertIs(is_right(ABOVE, "named", PLAIN), False)
        for manner, reader in (("named", PLAIN), ("blind", PLAIN_BLIND)):
            self.assertIs(is_right(OWN, manner, reader), True)
            self.assertIsNone(fault(OWN, manner, reader))
        self.assertIs(is_right(EVEN, "named", PAIRED), True)
        self.assertEqual(fault((PAIRED[1], (0, 0)), "named", PAIRED), (1,))

    def test_a_fault_behind_closings(self):
        # It forgets at a closing of name 0 what it knows of name 1, which is still open.
        reader = ((((0, 0), (1, 1)), ((1, 1), (0, 0))), ((0, 1), (0, 0)))
        wrong = self.hold_against_all_rows(EVEN, "named", reader, 6)
        self.assertEqual(wrong, [(1, 0, -1, 0), (1, 0, -1, 1)])
        self.hold_shown_rows(EVEN, "named", reader, wrong)

    def test_all_readers_of_one_state(self):
        for names in (1, 2, 3):
            questions = list(all_questions(1, names)) + drawn_questions(names, 6, (2, 3), (names,))
            for manner in MANNERS:
                for reader in all_readers(1, names, manner):
                    for question in questions:
                        self.hold_against_all_rows(question, manner, reader, 4 if names == 3 else 5)

    def test_all_readers_of_two_states_and_one_name(self):
        for question in drawn_questions(61, 12, (1, 2, 3), (1,)) + [ONE_NAME]:
            for manner in MANNERS:
                for reader in all_readers(2, 1, manner):
                    wrong = self.hold_against_all_rows(question, manner, reader, 8)
                    if len(wrong) > 0 and len(wrong[0]) > 2:
                        self.hold_shown_rows(question, manner, reader, wrong)

    def test_many_readers_of_two_states_and_names(self):
        for question in (OWN, ABOVE, EVEN):
            for manner, step in (("named", 5), ("blind", 3)):
                for number, reader in enumerate(all_readers(2, 2, manner)):
                    if number % step == 0:
                        self.hold_against_all_rows(question, manner, reader, 4)

    def test_drawn_readers(self):
        draw = random.Random(6)
        for _ in range(300):
            names, manner = draw.randrange(1, 4), draw.choice(MANNERS)
            question = drawn_question(draw, draw.randrange(1, 7), names)
            reader = drawn_reader(draw, draw.randrange(1, 7), names, manner)
            wrong = self.hold_against_all_rows(question, manner, reader, (10, 6, 5)[names - 1])
            if wrong:
                self.hold_shown_rows(question, manner, reader, wrong)

    def test_readers_that_err_late(self):
        draw = random.Random(66)
        lengths = []
        for _ in range(300):
            opens, closes = LATE
            for _ in range(draw.randrange(1, 5)):
                state, name, there = draw.randrange(6), draw.randrange(3), draw.randrange(6)
                if draw.randrange(2) == 1:
                    opens = changed(opens, state, changed(opens[state], name, (there, opens[state][name][1])))
                else:
                    closes = changed(closes, state, changed(closes[state], name, there))
            steps, answers = drawn_question(draw, draw.randrange(1, 4), 3)
            question, reader = (steps, (0,) * len(answers)), (opens, closes)
            length = least_fault_length(question, "named", reader)
            row = fault(question, "named", reader)
            self.assertEqual(None if row is None else len(row), length)
            self.assertIs(shows_fault(question, "named", reader, row), True)
            if row is not None:
                self.assertTrue(errs_behind(question, "named", reader, row))
                lengths.append(length)
        self.assertGreater(sum(length > 15 for length in lengths), 50)

    def test_a_reader_that_errs_behind_93_tags(self):
        row = fault(ZERO, "named", LATE)
        self.assertEqual(len(row), 93)
        self.assertEqual(least_fault_length(ZERO, "named", LATE), 93)
        self.assertTrue(errs_behind(ZERO, "named", LATE, row))
        self.assertEqual(reading(ZERO, "named", LATE, row), (0,) * (len(answers_due(ZERO, row)) - 1) + (1,))
        self.assertIs(shows_fault(ZERO, "named", LATE, row), True)
        others = (row[:-1], row[1:], (0, -1) + row, row + (-1,), row[:-1] + (-1,), (0,) * 93, (0, -1) * 46 + (0,))
        for value in others:
            self.assertIs(shows_fault(ZERO, "named", LATE, value), False)

    def test_right_readers(self):
        for question in (OWN, EVEN, ONE_NAME, THREE_NAMES, RING, SIX_STATES) + tuple(drawn_questions(62, 60)):
            for manner in MANNERS:
                if can_read(question, manner):
                    reader = reader_for(question, manner)
                    self.hold_against_all_rows(question, manner, reader, 4)
                    self.assertIs(is_right(question, manner, reader), True)
                    self.assertIsNone(fault(question, manner, reader))
                    self.assertIsNone(least_fault_length(question, manner, reader))
                    self.hold_shown_rows(question, manner, reader, [])

    def test_right_readers_with_one_thing_changed(self):
        for manner, question in (("named", RING), ("named", EVEN), ("named", THREE_NAMES)):
            opens, closes = reader_for(question, manner)
            for state in range(len(opens)):
                for name in range(len(opens[0])):
                    there, told = opens[state][name]
                    other = (there + 1) % len(opens)
                    back = (closes[state][name] + 1) % len(opens)
                    changes = [
                        (changed(opens, state, changed(opens[state], name, (there, 1 - told))), closes),
                        (changed(opens, state, changed(opens[state], name, (other, told))), closes),
                        (opens, changed(closes, state, changed(closes[state], name, back))),
                    ]
                    for reader in changes:
                        row = fault(question, manner, reader)
                        self.assertEqual(len(row), least_fault_length(question, manner, reader))
                        self.assertTrue(errs_behind(question, manner, reader, row))

    def test_a_state_that_is_never_come_to_does_no_harm(self):
        opens = (((0, 0), (0, 1)), ((1, 1), (1, 0)))
        self.assertIs(is_right(OWN, "named", (opens, ((0, 0), (1, 1)))), True)
        self.assertIs(is_right(OWN, "blind", (opens, ((0,), (1,)))), True)
        self.assertEqual(len(fault(OWN, "named", (opens, ((0, 1), (1, 1))))), 3)

    def test_one_to_six_states(self):
        for states in range(1, 7):
            opens = tuple((((state + 1) % states, int(state == states - 1)),) for state in range(states))
            for manner in MANNERS:
                reader = opens, ((0,),) * states
                self.assertEqual(fault((((0,),), (0,)), manner, reader), (0,) * states)
                self.assertIs(shows_fault((((0,),), (0,)), manner, reader, (0,) * states), True)


class LongRows(unittest.TestCase):
    # No reader of six states is known whose least fault has more than 2000 tags,
    # so the limit is set lower here to see what is done beyond it.
    def test_too_many_tags(self):
        row = fault(ZERO, "named", LATE)
        for most in (1, 40, 92):
            with mock.patch("markspass.searches.MOST_LENGTH", most):
                self.assertIs(is_right(ZERO, "named", LATE), False)
                with self.assertRaises(TooMany) as caught:
                    fault(ZERO, "named", LATE)
                self.assertEqual(caught.exception.most, most)
                for value in (None, row, (), "a", [1], (True,), (0,) * 2001):
                    with self.assertRaises(TooMany):
                        shows_fault(ZERO, "named", LATE, value)

    def test_just_as_many_tags_as_may_be(self):
        for most in (93, 94, 2000):
            with mock.patch("markspass.searches.MOST_LENGTH", most):
                row = fault(ZERO, "named", LATE)
                self.assertEqual(len(row), 93)
                self.assertIs(shows_fault(ZERO, "named", LATE, row), True)
                self.assertIs(shows_fault(ZERO, "named", LATE, None), False)

    def test_too_many_comes_after_all_others(self):
        with mock.patch("markspass.searches.MOST_LENGTH", 40):
            for function, more in ((fault, ()), (shows_fault, (None,))):
                with self.assertRaises(BadReader):
                    function(ZERO, "blind", LATE, *more)
                with self.assertRaises(BadManner):
                    function(ZERO, None, LATE, *more)
                with self.assertRaises(BadQuestion):
                    function((ZERO[0], (2,)), "named", LATE, *more)


class Values(unittest.TestCase):
    def test_values_of_every_other_kind(self):
        values = NO_TUPLES + NO_NUMBERS + (nested(DEEP), ((1, 0),), ((1, 0), None), "ba", "1 0")
        for place, value in enumerate(values):
            with self.subTest(place=place):
                self.assertIs(shows_fault(ABOVE, "named", PLAIN, value), False)
                self.assertIs(shows_fault(OWN, "named", PLAIN, value), value is None)

    def test_rows_with_something_wrong_in_them(self):
        self.assertIs(shows_fault(ABOVE, "named", PLAIN, (1, 0)), True)
        for value in (
            [1, 0], (True, 0), (1, False), (1, None), (None, 0), (1, -1), (-1, 1), (1, 2), (1, -2), (1,), (),
            (1, 0, 0), (1, 1), (0, 0), (0, 1), (1, "0"), (1, (0,)), ((1,), 0), (1, [0]), (1, 0, -1), (1, 0, -1, 0),
        ):
            with self.subTest(value=value):
                self.assertIs(shows_fault(ABOVE, "named", PLAIN, value), False)

    def test_one_tag_too_long(self):
        for many in (1999, 2000, 2001):
            self.assertIs(shows_fault(ABOVE, "named", PLAIN, (1,) + (0,) * (many - 1)), False)
            self.assertIs(shows_fault(OWN, "named", PLAIN, (1,) * many), False)

    def test_something_where_there_is_none(self):
        for row in rows_to(2, 4):
            self.assertIs(shows_fault(OWN, "named", PLAIN, row), False)


class WrongValues(unittest.TestCase):
    FUNCTIONS = ((is_right, ()), (fault, ()), (shows_fault, (None,)))

    def test_bad_questions(self):
        for function, more in self.FUNCTIONS:
            for value, part in question_values():
                with self.subTest(function.__name__, value=str(value)[:60]), self.assertRaises(BadQuestion) as caught:
                    function(value, "named", PLAIN, *more)
                self.assertEqual(caught.exception.part, part)

    def test_bad_manners(self):
        for function, more in self.FUNCTIONS:
            for value in NO_TUPLES + ((), ("named",), "Named", "blind "):
                if value != "named":
                    with self.subTest(function.__name__, value=value), self.assertRaises(BadManner):
                        function(OWN, value, PLAIN, *more)

    def test_bad_readers(self):
        for function, more in self.FUNCTIONS:
            for manner, ways in (("named", 2), ("blind", 1)):
                for value, part in reader_values(ways):
                    with self.subTest(function.__name__, value=str(value)[:60]):
                        with self.assertRaises(BadReader) as caught:
                            function(OWN, manner, value, *more)
                        self.assertEqual(caught.exception.part, part)

    def test_the_leftmost_error_comes_first(self):
        for function, more in self.FUNCTIONS:
            with self.assertRaises(BadQuestion):
                function(None, None, None, *more)
            with self.assertRaises(BadManner):
                function(OWN, None, None, *more)
            with self.assertRaises(BadManner):
                function(OWN, "open", PLAIN_BLIND, *more)
            with self.assertRaises(BadReader) as caught:
                function(OWN, "blind", ((((0, 2), (0, 1)),), ((0, 0),)), *more)
            self.assertEqual(caught.exception.part, "opens")
