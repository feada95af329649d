"""Points 14 and 15: ringing at the first mark that is answered 1, who can, and the papers and rows that show it."""

import random
import unittest
from itertools import product

from markspass.alarms import can_ring, first_ring, ring_paper, ring_rows, rings, shows_ring_paper
from markspass.errors import BadManner, BadNumber, BadPath, BadQuestion, BadRow, BadTrap
from markspass.meetings import can_read
from markspass.ringers import rings_right
from tests.ring_slow import can_ring_by_words, due_along, first_answers_in_all, first_dues_in_all, first_one
from tests.ring_slow import given_and_state, quiet_by_trying, rings_rightly_in, rung, walked_far
from tests.samples import ABOVE, DEEP, EVEN, NO_NUMBERS, NO_TUPLES, ONE_NAME, OWN, RING, SECOND, SIXTH, SIX_STATES
from tests.samples import THREE_NAMES, TWO, UNREACHED, ZERO
from tests.samples import chained, drawn_questions, drawn_reader, nested, path_values, question_values, row_values
from tests.slow import all_questions, all_readers, paths_to, rows_to, walked

MANNERS = ("named", "blind")
# One name leads in, and then only the other goes round: a closing that tells the name tells where it leads.
TURNING = (((1, 2), (2, 1), (2, 2)), (0, 0, 1))
NAMED = (OWN, ABOVE, EVEN, ONE_NAME, THREE_NAMES, RING, SIX_STATES, UNREACHED, TWO, SECOND, SIXTH, TURNING, ZERO)
DRAWN = NAMED + tuple(drawn_questions(141, 30, (6,))) + tuple(drawn_questions(142, 70))
PAPER = ((), (0,), (0,), (1,))
# Either name leads in, and then one of them goes round.
ROUND = (((1, 1), (1, 2), (2, 2)), (0, 0, 1))


def small_questions():
    """All questions of few states and names."""
    for states, names in ((1, 1), (1, 2), (1, 3), (2, 1), (2, 2), (3, 1)):
        yield from all_questions(states, names)


def is_ring_paper_by_words(question, quiet, manner, value):
    """Whether four paths are a paper, as point 15 says it."""
    way, word, other, below = value
    return (
        len(word) == len(other) > 0
        and (manner == "blind" or word == other)
        and not rung(question, way + word + other)
        and walked(quiet, 0, way + word) == walked(quiet, 0, way + word + other)
        and below != ()
        and rung(question, way + below) != rung(question, way + word + below)
    )


class Rings(unittest.TestCase):
    def test_known(self):
        self.assertIs(rings(SECOND, (0, 0)), True)
        self.assertIs(rings(SECOND, (0,)), False)
        self.assertIs(rings(EVEN, (0, 1, 1)), True)
        self.assertIs(rings(EVEN, (0, 0)), False)
        self.assertIs(rings(SIXTH, (0,) * 5), False)
        self.assertIs(rings(SIXTH, (0,) * 7), True)

    def test_the_empty_beginning_does_not_count(self):
        for question in ((((0,),), (1,)), SIXTH, (((1, 1), (1, 1)), (1, 0))):
            self.assertIs(rings(question, ()), False)
        self.assertIs(rings((((1, 1), (1, 1)), (1, 0)), (0, 1)), False)
        self.assertIs(rings((((0,),), (1,)), (0,)), True)

    def test_all_short_paths(self):
        for question in DRAWN:
            for path in paths_to(len(question[0][0]), 4):
                self.assertIs(rings(question, path), rung(question, path))

    def test_two_thousand_names(self):
        self.assertIs(rings(TWO, (1,) * 2000), False)
        self.assertIs(rings(TWO, (0,) * 1999 + (1,)), True)
        for value in ((1,) * 2001, (0,) * 2000 + (1,)):
            with self.assertRaises(BadPath):
                rings(TWO, value)

    def test_bad_paths(self):
        for value in path_values(2):
            with self.subTest(value=str(value)[:60]), self.assertRaises(BadPath):
                rings(TWO, value)
        with self.assertRaises(BadPath):
            rings(SECOND, (1,))


class FirstRing(unittest.TestCase):
    def test_known(self):
        self.assertEqual(first_ring(TWO, (1, 0, 1)), 2)
        self.assertEqual(first_ring(TWO, (0, -1, 1, 0, -1, 0, 1, 1)), 4)
        self.assertIsNone(first_ring(TWO, ()))
        self.assertIsNone(first_ring(TWO, (0, -1, 1, 0, 0, -1)))
        self.assertEqual(first_ring((((0,),), (1,)), (0, -1, 0)), 0)

    def test_all_short_rows(self):
        for question in NAMED:
            for row in rows_to(len(question[0][0]), 5):
                self.assertEqual(first_ring(question, row), first_one(due_along(question, row)))

    def test_two_thousand_tags(self):
        self.assertEqual(first_ring(TWO, (1,) * 1998 + (0, 1)), 1999)
        self.assertEqual(first_ring(TWO, (1, -1) * 999 + (0, 1)), 1000)
        self.assertIsNone(first_ring(TWO, (0, -1) * 1000))
        with self.assertRaises(BadRow) as caught:
            first_ring(TWO, (0, -1) * 1000 + (0,))
        self.assertIsNone(caught.exception.place)

    def test_bad_rows(self):
        for value, place in row_values(2):
            with self.subTest(value=str(value)[:60]), self.assertRaises(BadRow) as caught:
                first_ring(TWO, value)
            self.assertEqual(caught.exception.place, place)


class CanRing(unittest.TestCase):
    def test_known(self):
        for question, named, blind in (
            (TWO, False, False), (SECOND, True, True), (SIXTH, True, True), (OWN, True, True), (ABOVE, True, True),
            (EVEN, True, True), (ZERO, True, True), (ONE_NAME, True, True), (TURNING, True, False),
            (ROUND, False, False), ((((1, 1), (1, 2), (1, 1)), (0, 0, 1)), False, False),
        ):
            with self.subTest(question=question):
                self.assertEqual([can_ring(question, manner) for manner in MANNERS], [named, blind])

    def test_by_all_words(self):
        questions = list(small_questions()) + list(all_questions(2, 3))[::3] + list(all_questions(3, 2))[::17]
        for question in questions:
            for manner in MANNERS:
                with self.subTest(question=question, manner=manner):
                    self.assertIs(can_ring(question, manner), can_ring_by_words(question, manner, 5))

    def test_by_all_readers_of_one_and_two_states(self):
        for names, longest, step in ((1, 9, 1), (2, 5, 97)):
            questions = list(all_questions(1, names)) + list(all_questions(2, names))
            questions += list(all_questions(3, names))[::step]
            for manner in MANNERS:
                first = {}
                for states in (1, 2):
                    for reader in all_readers(states, names, manner):
                        first.setdefault(first_answers_in_all(manner, reader, names, longest), reader)
                found = 0
                for question in questions:
                    due = first_dues_in_all(question, longest)
                    if due in first:
                        found += 1
                        self.assertIs(rings_right(question, manner, first[due]), True)
                        self.assertIs(can_ring(question, manner), True)
                self.assertGreater(found, 10)

    def test_what_can_be_read_can_be_rung(self):
        for question in list(small_questions()) + list(all_questions(3, 2))[::7] + list(DRAWN):
            for manner in MANNERS:
                self.assertTrue(can_ring(question, manner) or not can_read(question, manner))
        # And more can be rung than read.
        self.assertEqual([can_read(ABOVE, "named"), can_ring(ABOVE, "named")], [False, True])

    def test_what_blind_can_named_can(self):
        for question in DRAWN:
            self.assertTrue(can_ring(question, "named") or not can_ring(question, "blind"))


class Papers(unittest.TestCase):
    def test_known(self):
        self.assertIsNone(ring_paper(SECOND, "named"))
        self.assertIs(shows_ring_paper(SECOND, "named", None), True)
        for manner in MANNERS:
            self.assertIs(shows_ring_paper(TWO, manner, PAPER), True)
            self.assertIs(shows_ring_paper(TWO, manner, ((1,), (1, 0), (1, 0), (1,))), False)
            self.assertIs(shows_ring_paper(TWO, manner, ((1,), (0, 0), (0, 0), (0, 1))), False)
            self.assertIs(shows_ring_paper(TWO, manner, ((1, 1), (0, 0), (0, 0), (1, 0))), True)
            self.assertIs(shows_ring_paper(TWO, manner, None), False)
        self.assertIs(shows_ring_paper(TWO, "blind", ((), (1, 0), (0, 0), (1,))), True)
        self.assertIs(shows_ring_paper(TWO, "named", ((), (1, 0), (0, 0), (1,))), False)

    def test_there_is_one_just_if_no_reader_rings_rightly(self):
        for question in list(small_questions()) + list(all_questions(3, 2))[::5] + list(DRAWN):
            for manner in MANNERS:
                found = ring_paper(question, manner)
                self.assertIs(found is None, can_ring(question, manner))
                self.assertIs(shows_ring_paper(question, manner, found), True)
                self.assertIs(shows_ring_paper(question, manner, None), found is None)
                if found is not None and len(question[0]) < 4:
                    self.assertTrue(is_ring_paper_by_words(question, quiet_by_trying(question)[0], manner, found))

    def test_papers_of_questions_of_six_states(self):
        papers = 0
        for question in DRAWN:
            for manner in MANNERS:
                found = ring_paper(question, manner)
                if found is not None:
                    papers += 1
                    way, word, other, below = found
                    self.assertTrue(0 < len(word) == len(other) and below != ())
                    self.assertTrue(manner == "blind" or word == other)
                    self.assertFalse(rung(question, way + word + other))
                    # What follows behind the one word and behind both is alike, which is what states of the quiet say.
                    for path in paths_to(len(question[0][0]), 4):
                        self.assertEqual(rung(question, way + word + path), rung(question, way + word + other + path))
                    self.assertNotEqual(rung(question, way + below), rung(question, way + word + below))
        self.assertGreater(papers, 30)

    def test_all_short_paths(self):
        cases = [(TWO, 2), (ROUND, 1), (ABOVE, 1), (SECOND, 3)]
        cases += [(question, 1) for question in drawn_questions(151, 12, (3,), (2,))]
        for question, longest in cases:
            paths = paths_to(len(question[0][0]), longest)
            quiet = quiet_by_trying(question)[0]
            for manner in MANNERS:
                for value in product(paths, repeat=4):
                    shown = shows_ring_paper(question, manner, value)
                    self.assertIs(shown, is_ring_paper_by_words(question, quiet, manner, value))
                    self.assertTrue(not shown or not can_ring(question, manner))

    def test_a_quiet_question_of_seven_states(self):
        # All its states but the last may be gone through silently; only name 1, from the last of them, goes round.
        steps = ((1, 1), (2, 2), (3, 3), (4, 4), (5, 5), (5, 0))
        question = (steps, (1, 0, 0, 0, 0, 0))
        for manner in MANNERS:
            self.assertIs(can_ring(question, manner), False)
            found = ring_paper(question, manner)
            self.assertIs(shows_ring_paper(question, manner, found), True)
            self.assertIs(shows_ring_paper(question, manner, ((), (0,) * 5, (0,) * 5, (1,))), True)
            self.assertIs(shows_ring_paper(question, manner, ((), (0,) * 4, (0,) * 4, (1,))), False)

    def test_two_thousand_names(self):
        zeros = (0,) * 2000
        ones = (1,) * 1999
        for value in (
            (ones + (1,), (0,), (0,), (1,)), ((), zeros, zeros, (1,)), ((), (0,), (0,), (1,) + zeros[1:]),
            (ones + (1,), zeros, zeros, (1,) + zeros[1:]),
        ):
            for manner in MANNERS:
                self.assertIs(shows_ring_paper(TWO, manner, value), True)
                self.assertEqual(len(ring_rows(TWO, manner, value, 1)), 2)
        for value in (
            (ones + (1, 1), (0,), (0,), (1,)), ((), zeros + (0,), zeros + (0,), (1,)), ((), (0,), (0,), (1,) + zeros),
        ):
            for manner in MANNERS:
                self.assertIs(shows_ring_paper(TWO, manner, value), False)
                with self.assertRaises(BadTrap):
                    ring_rows(TWO, manner, value, 1)

    def test_no_name_in_the_words_or_below(self):
        for value in (((), (), (), (1,)), ((), (0,), (0,), ()), ((0,), (), (), (1,)), ((), (0,), (), (1,))):
            for manner in MANNERS:
                self.assertIs(shows_ring_paper(TWO, manner, value), False)

    def test_words_that_ring(self):
        # Behind an answer 1 all paths have such a beginning, so nothing is told by what lies below.
        for value in (((0, 1), (0,), (0,), (1,)), ((), (0, 1), (0, 1), (1,)), ((0,), (1,), (1,), (0,))):
            for manner in MANNERS:
                self.assertIs(shows_ring_paper(TWO, manner, value), False)

    def test_values_of_every_other_kind(self):
        values = list(NO_TUPLES + NO_NUMBERS) + [nested(DEEP), (), PAPER[:3], PAPER + ((0,),), list(PAPER), "paper"]
        for place in range(4):
            values += [PAPER[:place] + (value,) + PAPER[place + 1:] for value in path_values(2)]
        values += [((), (0,), (False,), (1,)), ((), (False,), (False,), (1,)), ((), (0,), (0,), (True,))]
        for number, value in enumerate(values):
            with self.subTest(number=number):
                for manner in MANNERS:
                    self.assertIs(shows_ring_paper(TWO, manner, value), False)
                    self.assertIs(shows_ring_paper(ABOVE, manner, value), value is None)
                    with self.assertRaises(BadTrap):
                        ring_rows(TWO, manner, value, 1)

    def test_something_where_there_is_none(self):
        for question in (OWN, ABOVE, EVEN):
            for manner in MANNERS:
                self.assertIs(shows_ring_paper(question, manner, PAPER), False)
                for value in (PAPER, None):
                    with self.assertRaises(BadTrap):
                        ring_rows(question, manner, value, 2)


class RingRows(unittest.TestCase):
    def test_known(self):
        self.assertEqual(ring_rows(TWO, "named", PAPER, 1), ((0, 0, -1, -1, 1), (0,) * 62 + (-1, -1, 1)))
        self.assertEqual(
            ring_rows(TWO, "blind", ((1,), (1, 0), (0, 0), (1, 0)), 2)[0],
            (1, 1, 0, 0, 0, 0, 0, -1, -1, -1, -1, -1, -1, 1, 0),
        )

    def test_what_they_are_made_of(self):
        for question in DRAWN:
            for manner in MANNERS:
                value = ring_paper(question, manner)
                if value is not None:
                    way, word, other, below = value
                    for states in range(1, 7):
                        few, many = ring_rows(question, manner, value, states)
                        closed = [-1 for _ in range(states + 1) for _ in word]
                        others = [name for _ in range(states) for name in other]
                        more = [name for _ in range(60) for name in other]
                        self.assertEqual(few, (*way, *word, *others, *closed, *below))
                        self.assertEqual(many, (*way, *word, *others, *more, *closed, *below))

    def test_more_than_two_thousand_tags(self):
        word = (0,) * 40
        few, many = ring_rows(TWO, "named", ((), word, word, (1,)), 6)
        self.assertEqual([len(few), len(many)], [561, 2961])
        word = (0,) * 2000
        few, many = ring_rows(TWO, "blind", ((1,) * 2000, word, word, (1,) * 2000), 6)
        self.assertEqual([len(few), len(many)], [32000, 152000])

    def hold_fooled(self, question, manner, reader, value, rows):
        """See that a reader is in one state ahead of what is below in both rows, and rings wrongly in one of them."""
        behind = [given_and_state(manner, reader, row[:len(row) - len(value[3])])[1] for row in rows]
        self.assertEqual(behind[0], behind[1])
        self.assertEqual(*[given_and_state(manner, reader, row)[1] for row in rows])
        self.assertFalse(all(rings_rightly_in(question, manner, reader, row) for row in rows))
        self.assertIs(rings_right(question, manner, reader), False)

    def test_every_drawn_reader_is_fooled(self):
        draw = random.Random(152)
        for question in DRAWN:
            for manner in MANNERS:
                value = ring_paper(question, manner)
                for states in range(1, 7 if value is not None else 1):
                    rows = ring_rows(question, manner, value, states)
                    for few in range(1, states + 1):
                        opens, closes = drawn_reader(draw, few, len(question[0][0]), manner)
                        less = tuple(tuple((there, told * draw.randrange(2)) for there, told in row) for row in opens)
                        for reader in ((opens, closes), (less, closes)):
                            self.hold_fooled(question, manner, reader, value, rows)

    def test_every_reader_of_one_and_two_states_is_fooled(self):
        for manner in MANNERS:
            for states in (1, 2):
                rows = ring_rows(TWO, manner, PAPER, states)
                for number, reader in enumerate(all_readers(states, 2, manner)):
                    if states == 1 or number % 9 == 0:
                        self.hold_fooled(TWO, manner, reader, PAPER, rows)

    def test_what_is_left_open(self):
        for manner in MANNERS:
            for question in DRAWN:
                value = ring_paper(question, manner)
                if value is not None:
                    way, word, other, below = value
                    ends = [way + below, way + word + other * 59 + below]
                    rows = ring_rows(question, manner, value, 3)
                    due = [due_along(question, row) for row in rows]
                    self.assertEqual([told[-1] for told in due], [
                        question[1][walked_far(question, 0, end)] for end in ends
                    ])
                    self.assertNotEqual(1 in due[0], 1 in due[1])

    def test_bad_numbers(self):
        for value in NO_NUMBERS + (0, 7, 60, 10 ** 30, "1", (1,), [1]):
            with self.subTest(value=value), self.assertRaises(BadNumber):
                ring_rows(TWO, "named", PAPER, value)


class WrongValues(unittest.TestCase):
    MANNERED = ((can_ring, ()), (ring_paper, ()), (shows_ring_paper, (None,)), (ring_rows, (PAPER, 1)))

    def test_bad_questions(self):
        for value, part in question_values():
            for function, more in self.MANNERED + ((rings, None), (first_ring, None)):
                arguments = ((),) if more is None else ("named", *more)
                with self.subTest(function.__name__, value=str(value)[:60]), self.assertRaises(BadQuestion) as caught:
                    function(value, *arguments)
                self.assertEqual(caught.exception.part, part)

    def test_bad_manners(self):
        for function, more in self.MANNERED:
            for value in NO_TUPLES + ((), ("named",), "Named", "blind ", "open"):
                if value != "named":
                    with self.subTest(function.__name__, value=value), self.assertRaises(BadManner):
                        function(TWO, value, *more)

    def test_the_leftmost_error_comes_first(self):
        with self.assertRaises(BadQuestion):
            rings(None, None)
        with self.assertRaises(BadQuestion):
            first_ring(None, None)
        for function, more in self.MANNERED:
            with self.assertRaises(BadQuestion):
                function(None, None, *[None for _ in more])
            with self.assertRaises(BadManner):
                function(TWO, None, *[None for _ in more])
        with self.assertRaises(BadTrap):
            ring_rows(TWO, "named", None, None)
        with self.assertRaises(BadTrap):
            ring_rows(SECOND, "named", PAPER, 7)
