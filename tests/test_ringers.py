"""Point 16: readers that ring rightly, the least rows in which one doesn't, and ringers."""

import random
import unittest
from unittest import mock

from markspass.alarms import can_ring, ring_paper
from markspass.errors import BadManner, BadQuestion, BadReader, TooMany
from markspass.meetings import can_read, reader_for
from markspass.ringers import ring_fault, ringer, rings_right, shows_ring_fault, shows_ringer
from tests.ring_slow import due_along, first_answers_in_all, first_dues_in_all, given_and_state, is_ring_fault
from tests.ring_slow import least_ring_fault_length, least_ring_faults, rings_rightly_in
from tests.samples import ABOVE, BELL, DEEP, EVEN, LATE, NO_NUMBERS, NO_TUPLES, ONE_NAME, OWN, RING
from tests.samples import RINGS_BEHIND_2000, RINGS_BEHIND_2001, RINGS_BEHIND_25460, SECOND, SIXTH, THREE_NAMES, TWO
from tests.samples import ZERO
from tests.samples import chained, drawn_question, drawn_questions, drawn_reader, nested, question_values
from tests.samples import reader_values
from tests.slow import all_questions, all_readers, one_longer, rows_to

MANNERS = ("named", "blind")
MOST_TAGS = "markspass.searches.MOST_LENGTH"
PLAIN = ((((0, 0), (0, 1)),), ((0, 0),))
DEAF = ((((0, 0),),), ((0,),))


def seldom(draw, answers):
    """The answers with fewer of them 1."""
    return tuple(told * draw.randrange(2) for told in answers)


def drawn_pair(draw, manner, names, states):
    """A question and a reader of so many states at most, drawn, that ring seldom."""
    steps, answers = drawn_question(draw, draw.randrange(1, 7), names)
    opens, closes = drawn_reader(draw, draw.randrange(1, states + 1), names, manner)
    opens = tuple(tuple(zip([there for there, _ in row], seldom(draw, [told for _, told in row]))) for row in opens)
    return (steps, seldom(draw, answers)), (opens, closes)


def counting(states):
    """A reader of one name, by both manners, for SECOND: it counts tags, and tells how deep it stands."""
    half = states // 2
    opens = [((half + (count + 1) % half, 0),) for count in range(half)]
    opens += [((half + count, 1),) for count in range(half)]
    closes = [(0,) for _ in range(half)] + [((count + 1) % half,) for count in range(half)]
    return tuple(opens), tuple(closes)


def put(things, place, value):
    """The tuple with another value at a place."""
    return things[:place] + (value,) + things[place + 1:]


class RingFaults(unittest.TestCase):
    def hold_against_all_rows(self, question, manner, reader, longest):
        """Hold ring_fault, rings_right and shows_ring_fault against all rows up to a length."""
        wrong = least_ring_faults(question, manner, reader, longest)
        found = ring_fault(question, manner, reader)
        self.assertIs(rings_right(question, manner, reader), found is None)
        self.assertIs(shows_ring_fault(question, manner, reader, None), found is None)
        self.assertIs(shows_ring_fault(question, manner, reader, found), True)
        if wrong:
            self.assertIn(found, wrong)
        elif found is not None:
            self.assertGreater(len(found), longest)
            self.assertTrue(is_ring_fault(question, manner, reader, found))
        return wrong

    def hold_shown_rows(self, question, manner, reader, wrong):
        """Hold shows_ring_fault against the rows that are least faults, for all rows of a tag more, and fewer."""
        for row in rows_to(len(question[0][0]), len(wrong[0]) + 1 if wrong else 3):
            self.assertIs(shows_ring_fault(question, manner, reader, row), row in wrong)

    def test_known(self):
        for manner in MANNERS:
            self.assertIs(rings_right(SECOND, manner, BELL), True)
            self.assertIsNone(ring_fault(SECOND, manner, BELL))
            self.assertIs(rings_right(SECOND, manner, DEAF), False)
            self.assertEqual(ring_fault(SECOND, manner, DEAF), (0, 0))
            self.assertEqual(ring_fault(SECOND, manner, ((((0, 1),),), ((0,),))), (0,))
        self.assertEqual(ring_fault(TWO, "named", ((((0, 0), (0, 0)),), ((0, 0),))), (0, 1))

    def test_what_is_answered_behind_the_first_ring_does_not_matter(self):
        # By point 6 it errs in marks of name 1, but there a 1 has been due and rung before.
        self.assertIs(rings_right(ABOVE, "named", PLAIN), True)
        self.assertIsNone(ring_fault(ABOVE, "named", PLAIN))
        self.assertIs(shows_ring_fault(ABOVE, "named", PLAIN, (1, 0)), False)
        # It rings too early, and errs once more behind that.
        self.assertEqual(ring_fault(SECOND, "blind", ((((0, 1),),), ((0,),))), (0,))
        self.assertIs(shows_ring_fault(SECOND, "blind", ((((0, 1),),), ((0,),)), (0, -1, 0)), False)

    def test_rows_that_err_but_not_first(self):
        # At the last tags of 00 and 01 it errs as well, but at their first a 1 was due and rung; at 11 it does first.
        question = (((1, 2), (3, 3), (1, 1), (3, 3)), (0, 1, 0, 0))
        reader = ((((1, 1), (0, 0)), ((1, 1), (1, 1))), ((0, 0), (0, 0)))
        for row in ((0, 0), (0, 1), (1, 1)):
            self.assertNotEqual(due_along(question, row)[1], given_and_state("named", reader, row)[0][1])
        self.assertEqual(least_ring_faults(question, "named", reader, 4), [(1, 1)])
        self.hold_shown_rows(question, "named", reader, [(1, 1)])

    def test_all_readers_of_one_state(self):
        for names in (1, 2, 3):
            questions = list(all_questions(1, names)) + drawn_questions(names + 160, 6, (2, 3), (names,))
            for manner in MANNERS:
                for reader in all_readers(1, names, manner):
                    for question in questions:
                        self.hold_against_all_rows(question, manner, reader, 4 if names == 3 else 5)

    def test_all_readers_of_two_states_and_one_name(self):
        for question in drawn_questions(161, 12, (1, 2, 3), (1,)) + [ONE_NAME, SECOND, SIXTH]:
            for manner in MANNERS:
                for reader in all_readers(2, 1, manner):
                    wrong = self.hold_against_all_rows(question, manner, reader, 8)
                    if len(wrong) > 0 and len(wrong[0]) > 2:
                        self.hold_shown_rows(question, manner, reader, wrong)

    def test_many_readers_of_two_states_and_names(self):
        for question in (OWN, ABOVE, EVEN, TWO):
            for manner, step in (("named", 7), ("blind", 5)):
                for number, reader in enumerate(all_readers(2, 2, manner)):
                    if number % step == 0:
                        self.hold_against_all_rows(question, manner, reader, 4)

    def test_drawn_readers(self):
        draw = random.Random(162)
        lengths = []
        for _ in range(300):
            names, manner = draw.randrange(1, 4), draw.choice(MANNERS)
            question, reader = drawn_pair(draw, manner, names, draw.choice((3, 6, 20)))
            wrong = self.hold_against_all_rows(question, manner, reader, (10, 6, 5)[names - 1])
            lengths.append(len(wrong[0]) if wrong else 0)
            if wrong and lengths[-1] < 6:
                self.hold_shown_rows(question, manner, reader, wrong)
        self.assertGreater(min(lengths.count(length) for length in range(4)), 5)

    def test_drawn_readers_by_lengths(self):
        draw = random.Random(163)
        for _ in range(150):
            names, manner = draw.randrange(1, 4), draw.choice(MANNERS)
            question, reader = drawn_pair(draw, manner, names, 12)
            row = ring_fault(question, manner, reader)
            self.assertEqual(None if row is None else len(row), least_ring_fault_length(question, manner, reader))
            self.assertTrue(row is None or is_ring_fault(question, manner, reader, row))

    def test_right_in_all_rows(self):
        draw = random.Random(164)
        right = 0
        for _ in range(400):
            names, manner = draw.randrange(1, 4), draw.choice(MANNERS)
            question, reader = drawn_pair(draw, manner, names, 3)
            shown = rings_right(question, manner, reader)
            rows = rows_to(names, (9, 5, 4)[names - 1])
            self.assertTrue(not shown or all(rings_rightly_in(question, manner, reader, row) for row in rows))
            self.assertIs(shown, least_ring_fault_length(question, manner, reader) is None)
            right += shown
        self.assertGreater(right, 40)

    def test_readers_that_are_right_ring_rightly(self):
        for question in [OWN, EVEN, ONE_NAME, THREE_NAMES, RING] + drawn_questions(165, 80):
            for manner in MANNERS:
                if can_read(question, manner):
                    self.assertIs(rings_right(question, manner, reader_for(question, manner)), True)

    def test_readers_that_err_late(self):
        draw = random.Random(166)
        lengths = []
        for _ in range(150):
            opens, closes = draw.choice((LATE, RINGS_BEHIND_2000, RINGS_BEHIND_2001))
            for _ in range(draw.randrange(1, 5)):
                state, name, there = draw.randrange(len(opens)), draw.randrange(3), draw.randrange(len(opens))
                if draw.randrange(2) == 1:
                    opens = put(opens, state, put(opens[state], name, (there, opens[state][name][1])))
                else:
                    closes = put(closes, state, put(closes[state], name, there))
            steps, answers = drawn_question(draw, draw.randrange(1, 4), 3)
            question = draw.choice(((steps, (0,) * len(answers)), (steps, seldom(draw, answers))))
            length = least_ring_fault_length(question, "named", (opens, closes))
            if length is None or length <= 2000:
                row = ring_fault(question, "named", (opens, closes))
                self.assertEqual(None if row is None else len(row), length)
                self.assertIs(shows_ring_fault(question, "named", (opens, closes), row), True)
                self.assertTrue(row is None or is_ring_fault(question, "named", (opens, closes), row))
                lengths.append(length or 0)
        self.assertGreater(sum(length > 15 for length in lengths), 15)

    def test_twenty_states(self):
        for states in (2, 4, 18, 20):
            for manner in MANNERS:
                reader = counting(states)
                self.assertEqual(len(reader[0]), states)
                self.assertIs(rings_right(SECOND, manner, reader), True)
                # It is to be come to by tags of all counts before this, and then rings too late.
                opens = put(reader[0], states - 1, ((0, 0),))
                row = ring_fault(SECOND, manner, (opens, reader[1]))
                self.assertEqual(len(row), least_ring_fault_length(SECOND, manner, (opens, reader[1])))
                self.assertTrue(is_ring_fault(SECOND, manner, (opens, reader[1]), row))
                self.assertIs(shows_ringer(SECOND, manner, reader), True)

    def test_a_quiet_question_of_seven_states(self):
        opens = tuple((((state + 1) % 6, int(state == 5)),) for state in range(6))
        for manner in MANNERS:
            reader = opens, tuple((max(state - 1, 0),) for state in range(6))
            self.assertIs(rings_right(SIXTH, manner, reader), True)
            self.assertEqual(ring_fault(SIXTH, manner, (reader[0][:5] + (((5, 0),),), reader[1])), (0,) * 6)
            self.assertEqual(ring_fault(SIXTH, manner, (reader[0], reader[1][:5] + ((5,),))), (0,) * 5 + (-1, 0))
            self.assertEqual(ring_fault(SIXTH, manner, DEAF), (0,) * 6)


class LongRows(unittest.TestCase):
    def test_two_thousand_tags(self):
        row = ring_fault(ZERO, "named", RINGS_BEHIND_2000)
        self.assertEqual(len(row), 2000)
        self.assertTrue(is_ring_fault(ZERO, "named", RINGS_BEHIND_2000, row))
        self.assertIs(shows_ring_fault(ZERO, "named", RINGS_BEHIND_2000, row), True)
        for value in (None, (), row[:-1], row + (0,), (0, -1) + row[2:], (0, -1) + row, "a", [1], (True,) + row[1:]):
            self.assertIs(shows_ring_fault(ZERO, "named", RINGS_BEHIND_2000, value), False)
        self.assertIs(rings_right(ZERO, "named", RINGS_BEHIND_2000), False)

    def test_more_than_two_thousand_tags(self):
        for reader, length in ((RINGS_BEHIND_2001, 2001), (RINGS_BEHIND_25460, 25460)):
            self.assertEqual(least_ring_fault_length(ZERO, "named", reader), length)
            self.assertIs(rings_right(ZERO, "named", reader), False)
            self.assertIs(shows_ringer(ZERO, "named", reader), False)
            with self.assertRaises(TooMany) as caught:
                ring_fault(ZERO, "named", reader)
            self.assertEqual(caught.exception.most, 2000)
            for value in (None, (), (0,), "a", [1], (True,), (0,) * 2001, nested(DEEP)):
                with self.assertRaises(TooMany) as caught:
                    shows_ring_fault(ZERO, "named", reader, value)
                self.assertEqual(caught.exception.most, 2000)

    def test_too_many_comes_after_all_others(self):
        for function, more in ((ring_fault, ()), (shows_ring_fault, (None,))):
            with self.assertRaises(BadReader):
                function(ZERO, "blind", RINGS_BEHIND_2001, *more)
            with self.assertRaises(BadManner):
                function(ZERO, None, RINGS_BEHIND_2001, *more)
            with self.assertRaises(BadQuestion):
                function((ZERO[0], (2,)), "named", RINGS_BEHIND_2001, *more)

    def test_just_as_many_tags_as_may_be(self):
        for most in (92, 93):
            with mock.patch(MOST_TAGS, most):
                if most == 93:
                    self.assertEqual(len(ring_fault(ZERO, "named", LATE)), 93)
                else:
                    with self.assertRaises(TooMany):
                        ring_fault(ZERO, "named", LATE)
                self.assertIs(rings_right(ZERO, "named", LATE), False)


class Values(unittest.TestCase):
    def test_values_of_every_other_kind(self):
        values = NO_TUPLES + NO_NUMBERS + (nested(DEEP), ((0, 0),), ((0, 0), None), "aa", "0 0")
        for place, value in enumerate(values):
            with self.subTest(place=place):
                self.assertIs(shows_ring_fault(SECOND, "named", DEAF, value), False)
                self.assertIs(shows_ring_fault(SECOND, "named", BELL, value), value is None)

    def test_rows_with_something_wrong_in_them(self):
        self.assertIs(shows_ring_fault(SECOND, "named", DEAF, (0, 0)), True)
        for value in (
            [0, 0], (False, 0), (0, False), (0, None), (None, 0), (0, -1), (-1, 0), (0, 1), (0, -2), (0,), (),
            (0, 0, 0), (0, "0"), (0, (0,)), ((0,), 0), (0, [0]), (0, 0, -1), (0, 0, -1, 0),
        ):
            with self.subTest(value=value):
                self.assertIs(shows_ring_fault(SECOND, "named", DEAF, value), False)

    def test_something_where_there_is_none(self):
        for row in rows_to(1, 6):
            self.assertIs(shows_ring_fault(SECOND, "blind", BELL, row), False)


class Ringers(unittest.TestCase):
    def hold_ringer(self, question, manner):
        """See that there is a ringer just if one can ring, and that it rings rightly; how many states it has."""
        found = ringer(question, manner)
        self.assertIs(found is not None, can_ring(question, manner))
        self.assertIs(shows_ringer(question, manner, found), True)
        self.assertIs(shows_ringer(question, manner, None), found is None)
        if found is None:
            return 0
        self.assertLessEqual(len(found[0]), 20)
        self.assertIs(rings_right(question, manner, found), True)
        self.assertIsNone(ring_fault(question, manner, found))
        return len(found[0])

    def test_known(self):
        self.assertIsNone(ringer(TWO, "named"))
        self.assertIsNone(ringer(TWO, "blind"))
        for manner in MANNERS:
            self.assertEqual(self.hold_ringer(SECOND, manner), 2)
            self.assertEqual(self.hold_ringer(ABOVE, manner), 1)
            self.assertEqual(self.hold_ringer(ZERO, manner), 1)
            self.assertEqual(self.hold_ringer((((0,),), (1,)), manner), 1)

    def test_all_small_questions(self):
        for states, names in ((1, 1), (1, 2), (1, 3), (2, 1), (2, 2), (2, 3), (3, 1), (3, 2)):
            for question in list(all_questions(states, names))[::5 if (states, names) == (3, 2) else 1]:
                for manner in MANNERS:
                    self.hold_ringer(question, manner)

    def test_drawn_questions_of_four_states(self):
        draw = random.Random(167)
        sizes = {0: 0}
        for number in range(1500):
            # More of them can be rung if it is the first state's answer that rings, and paths lead mostly on.
            names = draw.randrange(1, 4)
            steps, answers = drawn_question(draw, 4, names)
            if number % 2 == 0:
                answers = (1, 0, 0, 0)
                steps = tuple(
                    tuple(there if draw.randrange(3) == 0 or there > state else 0 for there in nexts)
                    for state, nexts in enumerate(steps)
                )
            for manner in MANNERS:
                states = self.hold_ringer((steps, answers), manner)
                sizes[states] = sizes.get(states, 0) + 1
        self.assertGreater(min(sizes.get(states, 0) for states in range(5)), 10)
        self.assertGreater(sum(sizes[states] for states in sizes if states > 4), 10)

    def test_ringers_in_all_rows(self):
        for question in [SECOND, ABOVE, EVEN, OWN, chained(4)] + drawn_questions(168, 60, (3, 4)):
            names = len(question[0][0])
            for manner in MANNERS:
                found = ringer(question, manner)
                if found is not None:
                    longest = (10, 6, 5)[names - 1]
                    told = first_answers_in_all(manner, found, names, longest)
                    self.assertEqual(told, first_dues_in_all(question, longest))

    def test_a_way_that_is_kept_in_mind(self):
        # Name 0 turns round between two states; name 1 leads from both to one, where name 2 goes round.
        question = (((1, 2, 3), (0, 2, 0), (3, 3, 2), (3, 3, 3)), (0, 0, 0, 1))
        self.assertEqual(self.hold_ringer(question, "named"), 4)
        self.assertIs(can_ring(question, "blind"), False)
        # If name 2 leads there from one of the two as well, the reader can't know how often it went round.
        question = (((1, 2, 3), (0, 2, 2), (3, 3, 2), (3, 3, 3)), (0, 0, 0, 1))
        self.assertEqual(self.hold_ringer(question, "named"), 0)

    def test_four_and_five_states(self):
        for manner in MANNERS:
            for names in (1, 2, 3):
                for question in drawn_questions(169, 5, (4,), (names,)):
                    self.hold_ringer(question, manner)
                for states in (5, 6):
                    for question in drawn_questions(170, 5, (states,), (names,)) + [chained(states)]:
                        self.hold_too_many(question, manner)

    def hold_too_many(self, question, manner):
        """See that the question has too many states for a ringer, whatever the value is."""
        with self.assertRaises(TooMany) as caught:
            ringer(question, manner)
        self.assertEqual(caught.exception.most, 4)
        for value in NO_TUPLES + (BELL, (), ringer(OWN, manner)):
            with self.assertRaises(TooMany) as caught:
                shows_ringer(question, manner, value)
            self.assertEqual(caught.exception.most, 4)

    def test_questions_whose_least_one_has_fewer_states(self):
        # It is the question itself whose states are too many.
        for manner in MANNERS:
            self.hold_too_many((((1,), (2,), (3,), (4,), (0,)), (0,) * 5), manner)
            self.hold_ringer((((1,), (2,), (3,), (0,)), (0,) * 4), manner)

    def test_too_many_comes_after_all_others(self):
        for function, more in ((ringer, ()), (shows_ringer, (None,))):
            with self.assertRaises(BadManner):
                function(chained(5), "open", *more)
            with self.assertRaises(BadQuestion):
                function((chained(5)[0], (0,)), "named", *more)


class ShowsRinger(unittest.TestCase):
    def test_all_small_readers(self):
        for question in (OWN, ABOVE, EVEN, TWO, SECOND, ONE_NAME, chained(2), chained(4)):
            names = len(question[0][0])
            for manner in MANNERS:
                for states in (1, 2):
                    for number, reader in enumerate(all_readers(states, names, manner)):
                        if number % (7 if names == 2 else 1) == 0:
                            shown = shows_ringer(question, manner, reader)
                            self.assertIs(shown, rings_right(question, manner, reader))
                            self.assertIs(shown, least_ring_fault_length(question, manner, reader) is None)

    def test_one_to_twenty_one_states(self):
        for manner in MANNERS:
            opens, closes = BELL
            while len(opens) < 24:
                self.assertIs(shows_ringer(SECOND, manner, (opens, closes)), len(opens) <= 20)
                opens, closes = opens + opens[:1], closes + closes[:1]

    def test_readers_by_the_other_manner(self):
        for question in (OWN, ABOVE):
            self.assertIs(shows_ringer(question, "named", ringer(question, "named")), True)
            self.assertIs(shows_ringer(question, "blind", ringer(question, "named")), False)
            self.assertIs(shows_ringer(question, "named", ringer(question, "blind")), False)
        self.assertIs(shows_ringer(OWN, "named", BELL), False)

    def test_readers_where_none_rings_rightly(self):
        self.assertIsNotNone(ring_paper(TWO, "named"))
        self.assertIs(shows_ringer(TWO, "named", None), True)
        self.assertIs(shows_ringer(TWO, "named", PLAIN), False)
        self.assertIs(shows_ringer(SECOND, "named", None), False)

    def test_values_of_every_other_kind(self):
        for manner, ways in (("named", 2), ("blind", 1)):
            for value, _ in reader_values(ways, 20):
                self.assertIs(shows_ringer(OWN, manner, value), False)
        deep = nested(DEEP)
        for number, value in enumerate(NO_TUPLES + NO_NUMBERS + (deep, (deep, deep), ((), ()), "reader")):
            with self.subTest(number=number):
                self.assertIs(shows_ringer(SECOND, "named", value), False)
                self.assertIs(shows_ringer(TWO, "blind", value), value is None)

    def test_true_for_a_number(self):
        opens, closes = BELL
        self.assertIs(shows_ringer(SECOND, "named", (opens, closes)), True)
        for value in (
            ((((1, 0),), ((1, True),)), closes), ((((1, False),), ((1, 1),)), closes),
            ((((True, 0),), ((1, 1),)), closes), (opens, ((0,), (False,))), [opens, closes], (list(opens), closes),
        ):
            self.assertIs(shows_ringer(SECOND, "named", value), False)


class WrongValues(unittest.TestCase):
    READING = ((rings_right, ()), (ring_fault, ()), (shows_ring_fault, (None,)))

    def test_bad_questions(self):
        for function, more in self.READING + ((ringer, None), (shows_ringer, None)):
            arguments = {ringer: (), shows_ringer: (None,)}.get(function, (PLAIN, *(more or ())))
            for value, part in question_values():
                with self.subTest(function.__name__, value=str(value)[:60]), self.assertRaises(BadQuestion) as caught:
                    function(value, "named", *arguments)
                self.assertEqual(caught.exception.part, part)

    def test_bad_manners(self):
        for function, arguments in (
            (rings_right, (PLAIN,)), (ring_fault, (PLAIN,)), (shows_ring_fault, (PLAIN, None)), (ringer, ()),
            (shows_ringer, (PLAIN,)),
        ):
            for value in NO_TUPLES + ((), ("named",), "Named", "blind ", "open"):
                if value != "named":
                    with self.subTest(function.__name__, value=value), self.assertRaises(BadManner):
                        function(OWN, value, *arguments)

    def test_bad_readers(self):
        for function, more in self.READING:
            for manner, ways in (("named", 2), ("blind", 1)):
                for value, part in reader_values(ways, 20):
                    with self.subTest(function.__name__, value=str(value)[:60]):
                        with self.assertRaises(BadReader) as caught:
                            function(OWN, manner, value, *more)
                        self.assertEqual(caught.exception.part, part)

    def test_twenty_and_twenty_one_states(self):
        for function, more in self.READING:
            for manner in MANNERS:
                opens, closes = counting(20)
                self.assertIn(function(SECOND, manner, (opens, closes), *more), (True, None))
                with self.assertRaises(BadReader) as caught:
                    function(SECOND, manner, (opens + opens[:1], closes + closes[:1]), *more)
                self.assertEqual(caught.exception.part, "opens")
                with self.assertRaises(BadReader) as caught:
                    function(SECOND, manner, (opens, closes[:19] + ((20,),)), *more)
                self.assertEqual(caught.exception.part, "closes")

    def test_the_leftmost_error_comes_first(self):
        for function, more in self.READING:
            with self.assertRaises(BadQuestion):
                function(None, None, None, *more)
            with self.assertRaises(BadManner):
                function(OWN, None, None, *more)
            with self.assertRaises(BadReader):
                function(OWN, "blind", PLAIN, *more)
        for function, more in ((ringer, ()), (shows_ringer, (None,))):
            with self.assertRaises(BadQuestion):
                function(None, None, *more)


class RowsOfTheSlowWay(unittest.TestCase):
    def test_one_longer_is_all(self):
        # What all of the above is held against: each row with one tag more.
        self.assertEqual(one_longer(2, (0, -1)), [(0, -1, 0), (0, -1, 1)])
        self.assertEqual(one_longer(1, (0,)), [(0, -1), (0, 0)])
