"""Point 9: traps, and the rows by which they fool every reader by "named" with so many states."""

import random
import unittest
from itertools import product

from markspass.errors import BadNumber, BadQuestion, BadTrap
from markspass.meetings import can_read
from markspass.questions import answer
from markspass.readers import reading
from markspass.rows import answers_due, left_open
from markspass.traps import shows_trap, trap, trap_rows
from tests.samples import ABOVE, DEEP, EVEN, NO_NUMBERS, NO_TUPLES, ONE_NAME, OWN, RING, SIX_STATES
from tests.samples import THREE_NAMES, UNREACHED
from tests.samples import chained, drawn_question, drawn_questions, drawn_reader, nested, path_values, question_values
from tests.slow import all_questions, all_readers, closings, paths_to

DRAWN = (OWN, ABOVE, EVEN, ONE_NAME, THREE_NAMES, SIX_STATES, RING, UNREACHED, chained(6))
DRAWN += tuple(drawn_questions(91, 40, (6,))) + tuple(drawn_questions(92, 60))
RIGHT = ((), (1,), (0,))


def small_questions():
    """All questions of few states and names."""
    for states, names in ((1, 1), (1, 2), (1, 3), (2, 1), (2, 2), (2, 3), (3, 1)):
        yield from all_questions(states, names)


def is_trap_by_words(question, value):
    """Whether three paths are a trap, as point 9 says it."""
    way, word, below = value
    if any(len(part) > 20 for part in value) or word == () or below == ():
        return False
    return answer(question, way + below) != answer(question, way + sixty(word) + below)


def sixty(word):
    """Sixty times a word."""
    return tuple(name for _ in range(60) for name in word)


def state_behind(reader, row):
    """The state of a reader by "named" behind a row."""
    state, closed = 0, closings(row)
    for place, tag in enumerate(row):
        state = reader[1][state][closed[place]] if tag == -1 else reader[0][state][tag][0]
    return state


class Traps(unittest.TestCase):
    def test_known(self):
        self.assertIsNone(trap(EVEN))
        self.assertIsNone(trap(OWN))
        self.assertIs(shows_trap(ABOVE, RIGHT), True)
        self.assertIs(shows_trap(ABOVE, ((), (0, 1), (0, 0))), True)
        self.assertIs(shows_trap(ABOVE, ((1,), (1,), (0,))), False)
        self.assertIs(shows_trap(ABOVE, ((), (0,), (0,))), False)
        self.assertIs(shows_trap(ABOVE, ((), (1,), (1,))), False)
        self.assertIs(shows_trap(EVEN, RIGHT), False)

    def test_there_is_one_just_if_named_can_not_read(self):
        for question in list(small_questions()) + list(all_questions(3, 2))[::7] + list(DRAWN):
            found = trap(question)
            self.assertIs(found is None, can_read(question, "named"))
            self.assertIs(shows_trap(question, found), True)
            self.assertIs(shows_trap(question, None), found is None)
            if found is not None:
                self.assertTrue(is_trap_by_words(question, found))

    def test_many_drawn_questions_of_six_states(self):
        draw = random.Random(93)
        for _ in range(300):
            question = drawn_question(draw, 6, draw.randrange(1, 4))
            found = trap(question)
            self.assertIs(shows_trap(question, found), True)
            self.assertTrue(found is None or is_trap_by_words(question, found))

    def test_all_short_paths(self):
        drawn = tuple(drawn_questions(94, 8, (3,), (2,)))
        cases = [(question, 2) for question in (OWN, ABOVE, EVEN, THREE_NAMES) + drawn]
        cases += [(chained(3), 6), (chained(6), 6), (ONE_NAME, 6), (SIX_STATES, 3)]
        for question, longest in cases:
            for value in product(paths_to(len(question[0][0]), longest), repeat=3):
                shown = shows_trap(question, value)
                self.assertIs(shown, is_trap_by_words(question, value))
                self.assertTrue(not shown or not can_read(question, "named"))

    def test_sixty_times_and_no_less(self):
        # Words of name 0 are counted by fours, fives and sixes: of all these, sixty times are none.
        for states in (4, 5, 6):
            turn = tuple(((state + 1) % states,) for state in range(states)), (0,) * (states - 1) + (1,)
            self.assertIs(shows_trap(turn, ((), (0,), (0,) * (states - 1))), False)
        # The chain has come to its end behind sixty times any word.
        self.assertIs(shows_trap(chained(6), ((), (0,), (0,))), True)
        self.assertIs(shows_trap(chained(6), ((0,) * 5, (0,), (0,))), False)

    def test_twenty_names(self):
        zeros = (0,) * 20
        for value in ((zeros, (1,), (0,)), ((), (1,) * 20, (0,)), ((), (1,), zeros), (zeros, (1,) * 20, zeros)):
            self.assertIs(shows_trap(ABOVE, value), True)
            self.assertEqual(len(trap_rows(ABOVE, value, 6)), 2)
        for value in ((zeros + (0,), (1,), (0,)), ((), (1,) * 21, (0,)), ((), (1,), zeros + (0,))):
            self.assertIs(shows_trap(ABOVE, value), False)
            with self.assertRaises(BadTrap):
                trap_rows(ABOVE, value, 6)

    def test_no_name_in_the_word_or_below(self):
        for value in (((), (), (0,)), ((), (1,), ()), ((), (), ())):
            self.assertIs(shows_trap(ABOVE, value), False)


def other_values():
    """Values that are no trap of ABOVE."""
    values = list(NO_TUPLES + NO_NUMBERS) + [nested(DEEP), (), RIGHT[:2], RIGHT + ((0,),), list(RIGHT), (1, 1, 0), "trap"]
    for place in range(3):
        values += [RIGHT[:place] + (value,) + RIGHT[place + 1:] for value in path_values(2)]
    return values + [((), (True,), (0,)), ((), (1,), (False,)), ((), (1,), (2,)), ((), [1], (0,)), ((), (), (0,))]


class Values(unittest.TestCase):
    def test_values_of_every_other_kind(self):
        for place, value in enumerate(other_values()):
            with self.subTest(place):
                self.assertIs(shows_trap(ABOVE, value), False)
                self.assertIs(shows_trap(OWN, value), value is None)
                with self.assertRaises(BadTrap):
                    trap_rows(ABOVE, value, 1)

    def test_something_where_there_is_none(self):
        for question in (OWN, EVEN, (((0, 0),), (1,))):
            self.assertIs(shows_trap(question, trap(ABOVE)), False)
            with self.assertRaises(BadTrap):
                trap_rows(question, trap(ABOVE), 2)

    def test_none_where_there_is_something(self):
        self.assertIs(shows_trap(ABOVE, None), False)
        with self.assertRaises(BadTrap):
            trap_rows(EVEN, None, 2)


class TrapRows(unittest.TestCase):
    def test_known(self):
        self.assertEqual(trap_rows(ABOVE, RIGHT, 1)[0], (1, -1, 0))
        self.assertEqual(trap_rows(ABOVE, RIGHT, 2), ((1, 1, -1, -1, 0), (1,) * 62 + (-1, -1, 0)))
        self.assertEqual(
            trap_rows(ABOVE, ((0,), (0, 1), (0, 0)), 2)[0], (0, 0, 1, 0, 1, -1, -1, -1, -1, 0, 0)
        )

    def test_what_they_are_made_of(self):
        for question in DRAWN:
            value = trap(question)
            if value is not None:
                way, word, below = value
                for states in range(1, 7):
                    few, many = trap_rows(question, value, states)
                    names = [name for _ in range(states) for name in word]
                    closed = [-1 for _ in names]
                    self.assertEqual(few, (*way, *names, *closed, *below))
                    self.assertEqual(many, (*way, *names, *sixty(word), *closed, *below))
                    self.assertEqual(left_open(question, few), way + below)
                    self.assertEqual(left_open(question, many), way + sixty(word) + below)
                    self.assertNotEqual(answers_due(question, few)[-1], answers_due(question, many)[-1])

    def hold_fooled(self, question, reader, states, below, rows):
        """See that a reader is in one state ahead of what is below in both rows, and answers it alike."""
        few, many = rows
        behind = [state_behind(reader, row[:len(row) - len(below)]) for row in rows]
        self.assertEqual(behind[0], behind[1])
        self.assertEqual(state_behind(reader, few), state_behind(reader, many))
        told = [reading(question, "named", reader, row)[-1] for row in rows]
        self.assertEqual(told[0], told[1])

    def test_every_drawn_reader_is_fooled(self):
        draw = random.Random(95)
        for question in DRAWN:
            value = trap(question)
            if value is not None:
                for states in range(1, 7):
                    rows = trap_rows(question, value, states)
                    for few in range(1, states + 1):
                        reader = drawn_reader(draw, few, len(question[0][0]), "named")
                        self.hold_fooled(question, reader, states, value[2], rows)

    def test_every_reader_of_one_and_two_states_is_fooled(self):
        for states in (1, 2):
            rows = trap_rows(ABOVE, RIGHT, states)
            for number, reader in enumerate(all_readers(states, 2, "named")):
                if states == 1 or number % 9 == 0:
                    self.hold_fooled(ABOVE, reader, states, RIGHT[2], rows)

    def test_a_reader_of_more_states_may_tell(self):
        # It counts openings of name 1 up to five, and closings back.
        states = range(6)
        opens = tuple(((state, int(state > 0)), (min(state + 1, 5), 1)) for state in states)
        reader = opens, tuple((state, max(state - 1, 0)) for state in states)
        few, many = trap_rows(ABOVE, RIGHT, 1)
        self.assertEqual([reading(ABOVE, "named", reader, row)[-1] for row in (few, many)], [0, 1])

    def test_bad_numbers(self):
        for value in NO_NUMBERS + (0, 7, 60, 10 ** 30, "1", (1,), [1]):
            with self.subTest(value=value), self.assertRaises(BadNumber):
                trap_rows(ABOVE, RIGHT, value)


class WrongValues(unittest.TestCase):
    FUNCTIONS = ((trap, ()), (shows_trap, (None,)), (trap_rows, (RIGHT, 1)))

    def test_bad_questions(self):
        for function, more in self.FUNCTIONS:
            for value, part in question_values():
                with self.subTest(function.__name__, value=str(value)[:60]), self.assertRaises(BadQuestion) as caught:
                    function(value, *more)
                self.assertEqual(caught.exception.part, part)

    def test_the_leftmost_error_comes_first(self):
        with self.assertRaises(BadQuestion):
            trap_rows(None, None, None)
        with self.assertRaises(BadTrap):
            trap_rows(ABOVE, None, None)
        with self.assertRaises(BadTrap):
            trap_rows(EVEN, RIGHT, 7)
        with self.assertRaises(BadQuestion):
            shows_trap(((), ()), RIGHT)
