"""Points 4, 7 and 8: states that meet, what can be read and by how few states, and papers."""

import random
import unittest
from itertools import permutations, product

from markspass.errors import BadManner, BadQuestion
from markspass.faults import is_right
from markspass.meetings import can_read, fewest_states, meetings, paper, reader_for, shows_paper, shows_reader
from markspass.questions import answer, below_lots, least_question
from tests.samples import ABOVE, DEEP, EVEN, NO_NUMBERS, NO_TUPLES, ONE_NAME, OWN, RING, SIX_STATES
from tests.samples import THREE_NAMES, UNREACHED
from tests.samples import chained, drawn_questions, drawn_reader, nested, path_values, question_values, reader_values
from tests.slow import all_questions, all_readers, behind_words, due_in_all, given_in_all, meetings_by_words
from tests.slow import paths_to, readable_by_words, walked

MANNERS = ("named", "blind")
SIXES = tuple(drawn_questions(47, 30, (6,), (1, 2, 3)))
DRAWN = (OWN, ABOVE, EVEN, ONE_NAME, THREE_NAMES, SIX_STATES, RING, UNREACHED) + SIXES + tuple(drawn_questions(48, 60))
OTHER_VALUES = NO_TUPLES + NO_NUMBERS + (nested(DEEP), ((), ()), (0, 1), "paper", (None,) * 5, ((),) * 4, ((),) * 6)


def small_questions():
    """All questions of few states and names."""
    for states, names in ((1, 1), (1, 2), (1, 3), (2, 1), (2, 2), (2, 3), (3, 1)):
        yield from all_questions(states, names)


def with_numbers(reader, order):
    """The reader with its states numbered otherwise: order tells the new number of each."""
    opens, closes = reader
    states = sorted(range(len(opens)), key=lambda state: order[state])
    return (
        tuple(tuple((order[there], told) for there, told in opens[state]) for state in states),
        tuple(tuple(order[there] for there in closes[state]) for state in states),
    )


def with_one_more_state(reader):
    """The reader with one state more, to which nothing leads."""
    opens, closes = reader
    return opens + opens[:1], closes + closes[:1]


class Meetings(unittest.TestCase):
    def test_known(self):
        self.assertEqual([meetings(question, "named") for question in (OWN, ABOVE, EVEN)], [((0, 1),), ((0, 1),), ()])
        self.assertEqual([meetings(question, "blind") for question in (OWN, ABOVE, EVEN)], [((0, 1),)] * 3)
        for manner in MANNERS:
            self.assertEqual(meetings(chained(3), manner), ((0, 1), (0, 2), (1, 2)))
            self.assertEqual(meetings(ONE_NAME, manner), ())
            self.assertEqual(meetings((((0, 0, 0),), (1,)), manner), ())

    def test_words_of_blind_are_of_as_many_names(self):
        # Where the names left to go are counted by threes, words of unlike lengths alone would meet.
        turn = (((1, 1), (2, 2), (0, 0)), (0, 0, 1))
        self.assertEqual(meetings(turn, "blind"), ())
        self.assertEqual(meetings((((1, 0), (2, 2), (0, 0)), (0, 0, 1)), "blind"), ((0, 1), (0, 2), (1, 2)))

    def test_all_small_questions_by_all_words(self):
        for question in small_questions():
            for manner in MANNERS:
                self.assertEqual(meetings(question, manner), meetings_by_words(question, manner, 4))

    def test_many_questions_of_three_states(self):
        for number, question in enumerate(all_questions(3, 2)):
            if number % 13 == 0:
                for manner in MANNERS:
                    self.assertEqual(meetings(question, manner), meetings_by_words(question, manner, 4))

    def test_larger_questions(self):
        for question in DRAWN:
            least = least_question(question)
            states = range(len(least[0]))
            names = range(len(least[0][0]))
            # Pairs reached from a pair by words, longer and longer, until no new one comes.
            for one, other in product(states, states):
                for manner in MANNERS:
                    reached = {(one, other)}
                    for _ in range(36):
                        reached |= {
                            (least[0][p][name], least[0][q][more]) for p, q in reached
                            for name in names for more in names if manner == "blind" or name == more
                        }
                    meets = one < other and any(p == q for p, q in reached)
                    self.assertEqual((one, other) in meetings(question, manner), meets)

    def test_blind_by_the_states_behind_words(self):
        for question in SIXES:
            if len(question[0][0]) == 1:
                least = least_question(question)
                behind = [behind_words(least, state, 20) for state in range(len(least[0]))]
                for one, other in product(range(len(least[0])), repeat=2):
                    meets = one < other and any(a & b for a, b in zip(behind[one], behind[other]))
                    self.assertEqual((one, other) in meetings(question, "blind"), meets)

    def test_ascending(self):
        for question in DRAWN:
            for manner in MANNERS:
                pairs = meetings(question, manner)
                self.assertEqual(list(pairs), sorted(set(pairs)))
                self.assertTrue(all(0 <= one < other for one, other in pairs))


class Reading(unittest.TestCase):
    def test_known(self):
        self.assertEqual([can_read(question, "named") for question in (OWN, ABOVE, EVEN)], [True, False, True])
        self.assertEqual([can_read(question, "blind") for question in (OWN, ABOVE, EVEN)], [True, False, False])
        self.assertEqual([fewest_states(question, "blind") for question in (OWN, ABOVE, EVEN)], [1, None, None])
        self.assertEqual([fewest_states(RING, manner) for manner in MANNERS], [6, None])
        self.assertEqual([fewest_states(ONE_NAME, manner) for manner in MANNERS], [2, 2])
        self.assertEqual(fewest_states(chained(2), "named"), 1)
        self.assertIsNone(fewest_states(chained(3), "named"))
        self.assertEqual(fewest_states(UNREACHED, "named"), None)
        self.assertEqual(fewest_states((((0, 0), (1, 0), (2, 1)), (1, 0, 1)), "blind"), 1)

    def test_by_all_words(self):
        for question in small_questions():
            for manner in MANNERS:
                readable = readable_by_words(question, manner, 4)
                self.assertIs(can_read(question, manner), readable)
                fewest = max(below_lots(question)) + 1 if readable else None
                self.assertEqual(fewest_states(question, manner), fewest)

    def hold_against_all_readers(self, questions, names, manner, longest):
        """Hold can_read, fewest_states and is_right against all readers of one and two states."""
        by_given = [{}, {}]
        for states in (1, 2):
            for reader in all_readers(states, names, manner):
                by_given[states - 1].setdefault(given_in_all(manner, reader, names, longest), reader)
        for question in questions:
            due = due_in_all(question, longest)
            rights = [states + 1 for states in range(2) if due in by_given[states]]
            fewest = fewest_states(question, manner)
            self.assertEqual(rights, [states for states in (1, 2) if fewest is not None and fewest <= states])
            self.assertIs(can_read(question, manner), len(rights) > 0 or fewest in (3, 4, 5, 6))
            if fewest in (1, 2):
                reader = by_given[fewest - 1][due]
                self.assertIs(is_right(question, manner, reader), True)
                self.assertIs(shows_reader(question, manner, reader), True)

    def test_by_all_readers_of_one_and_two_states(self):
        for manner in MANNERS:
            ones = list(all_questions(1, 1)) + list(all_questions(2, 1)) + list(all_questions(3, 1))
            self.hold_against_all_readers(ones, 1, manner, 9)
            twos = list(all_questions(1, 2)) + list(all_questions(2, 2)) + list(all_questions(3, 2))[::97]
            self.hold_against_all_readers(twos, 2, manner, 5)

    def test_all_small_readers_are_shown_just_if_they_are_right_and_least(self):
        for question in (OWN, ABOVE, EVEN, ONE_NAME, (((0,),), (1,)), chained(2), chained(3)):
            names = len(question[0][0])
            for manner in MANNERS:
                fewest = fewest_states(question, manner)
                for states in (1, 2):
                    for number, reader in enumerate(all_readers(states, names, manner)):
                        if number % (7 if names == 2 else 1) == 0:
                            right = is_right(question, manner, reader)
                            self.assertIs(shows_reader(question, manner, reader), right and states == fewest)

    def test_readers_are_right_and_have_the_fewest_states(self):
        for question in list(small_questions()) + list(DRAWN):
            for manner in MANNERS:
                reader = reader_for(question, manner)
                self.assertIs(can_read(question, manner), reader is not None)
                self.assertIs(shows_reader(question, manner, reader), True)
                self.assertIs(shows_reader(question, manner, None), reader is None)
                if reader is not None:
                    self.assertEqual(len(reader[0]), fewest_states(question, manner))
                    self.assertEqual(len(reader[0]), max(below_lots(question)) + 1)
                    self.assertIs(is_right(question, manner, reader), True)

    def test_right_exactly_where_those_that_meet_are_alike_below(self):
        for question in DRAWN:
            for manner in MANNERS:
                lots = below_lots(question)
                alike = all(lots[one] == lots[other] for one, other in meetings(question, manner))
                self.assertIs(can_read(question, manner), alike)

    def test_no_drawn_reader_is_right_with_fewer_states(self):
        draw = random.Random(7)
        for question in DRAWN:
            for manner in MANNERS:
                fewest = fewest_states(question, manner)
                for states in range(1, 7 if fewest is None else fewest):
                    reader = drawn_reader(draw, states, len(question[0][0]), manner)
                    self.assertIs(is_right(question, manner, reader), False)
                    self.assertIs(shows_reader(question, manner, reader), False)


class ShowsReader(unittest.TestCase):
    def test_other_numbers_of_the_states(self):
        for question in (EVEN, ONE_NAME, THREE_NAMES, RING):
            reader = reader_for(question, "named")
            for order in list(permutations(range(len(reader[0]))))[:60]:
                shown = shows_reader(question, "named", with_numbers(reader, order))
                self.assertIs(shown, is_right(question, "named", with_numbers(reader, order)))
                if order[0] == 0:
                    self.assertIs(shown, True)

    def test_a_right_reader_of_more_states(self):
        for question, manner in ((OWN, "named"), (OWN, "blind"), (EVEN, "named"), (ONE_NAME, "blind")):
            reader = reader_for(question, manner)
            while len(reader[0]) < 7:
                reader = with_one_more_state(reader)
                self.assertIs(shows_reader(question, manner, reader), False)

    def test_one_and_six_states(self):
        reader = reader_for(RING, "named")
        self.assertEqual(len(reader[0]), 6)
        self.assertIs(shows_reader(RING, "named", reader), True)
        self.assertIs(shows_reader(RING, "named", with_one_more_state(reader)), False)
        self.assertIs(shows_reader(RING, "named", (reader[0][:5], reader[1][:5])), False)
        self.assertIs(shows_reader(RING, "blind", reader), False)

    def test_readers_of_questions_that_none_reads(self):
        self.assertIs(shows_reader(ABOVE, "named", None), True)
        self.assertIs(shows_reader(ABOVE, "named", reader_for(EVEN, "named")), False)
        self.assertIs(shows_reader(EVEN, "blind", reader_for(OWN, "blind")), False)

    def test_readers_by_the_other_manner(self):
        self.assertIs(shows_reader(OWN, "named", reader_for(OWN, "blind")), False)
        self.assertIs(shows_reader(OWN, "blind", reader_for(OWN, "named")), False)
        self.assertIs(shows_reader(OWN, "named", reader_for(ONE_NAME, "named")), False)

    def test_values_of_every_other_kind(self):
        for manner, ways in (("named", 2), ("blind", 1)):
            for value, _ in reader_values(ways):
                self.assertIs(shows_reader(OWN, manner, value), False)
        for value in OTHER_VALUES:
            self.assertIs(shows_reader(EVEN, "named", value), False)
            self.assertIs(shows_reader(ABOVE, "named", value), value is None)
            self.assertIs(shows_reader(OWN, "blind", value), False)

    def test_true_for_a_number(self):
        opens, closes = (((0, 0), (0, 1)),), ((0, 0),)
        self.assertIs(shows_reader(OWN, "named", (opens, closes)), True)
        for value in (
            ((((0, 0), (0, True)),), closes), ((((0, False), (0, 1)),), closes), ((((False, 0), (0, 1)),), closes),
            (opens, ((False, 0),)), [opens, closes], (list(opens), closes), (opens, [(0, 0)]), (opens, ([0, 0],)),
        ):
            self.assertIs(shows_reader(OWN, "named", value), False)


def is_paper_by_words(question, manner, value):
    """Whether five paths are a paper, as point 8 says it."""
    way, other_way, word, other_word, below = value
    least = least_question(question)
    return (
        len(word) == len(other_word)
        and (manner == "blind" or word == other_word)
        and walked(least, 0, way + word) == walked(least, 0, other_way + other_word)
        and below != ()
        and answer(question, way + below) != answer(question, other_way + below)
    )


class Papers(unittest.TestCase):
    def test_known(self):
        self.assertIsNone(paper(EVEN, "named"))
        self.assertIs(shows_paper(EVEN, "named", None), True)
        self.assertIs(shows_paper(ABOVE, "named", ((), (1,), (1,), (1,), (0,))), True)
        self.assertIs(shows_paper(ABOVE, "named", ((), (1,), (0, 1), (0, 1), (0, 0))), True)
        self.assertIs(shows_paper(ABOVE, "named", ((), (1,), (0,), (0,), (0,))), False)
        self.assertIs(shows_paper(EVEN, "blind", ((), (1,), (0,), (1,), (0,))), True)
        self.assertIs(shows_paper(EVEN, "named", ((), (1,), (0,), (1,), (0,))), False)
        self.assertIs(shows_paper(OWN, "blind", ((), (1,), (0,), (0,), (0,))), False)

    def test_there_is_one_just_if_no_reader_is_right(self):
        for question in list(small_questions()) + list(DRAWN):
            for manner in MANNERS:
                found = paper(question, manner)
                self.assertIs(found is None, reader_for(question, manner) is not None)
                self.assertIs(shows_paper(question, manner, found), True)
                self.assertIs(shows_paper(question, manner, None), found is None)
                if found is not None:
                    self.assertTrue(is_paper_by_words(question, manner, found))
                    self.assertTrue(all(len(part) <= 20 for part in found))

    def test_all_short_paths(self):
        cases = [(question, 1) for question in (OWN, ABOVE, EVEN, THREE_NAMES) + tuple(drawn_questions(81, 6, (3,)))]
        cases += [(chained(3), 4), (ONE_NAME, 3), ((((1,), (2,), (1,)), (0, 1, 0)), 3)]
        for question, longest in cases:
            paths = paths_to(len(question[0][0]), longest)
            for manner in MANNERS:
                for value in product(paths, repeat=5):
                    shown = shows_paper(question, manner, value)
                    self.assertIs(shown, is_paper_by_words(question, manner, value))
                    self.assertTrue(not shown or not can_read(question, manner))

    def test_below_may_not_be_empty(self):
        self.assertIs(shows_paper(ABOVE, "named", ((), (1,), (1,), (1,), ())), False)
        # The empty path is answered unlike behind these ways, but all that is below alike.
        self.assertIs(shows_paper(OWN, "named", ((), (1,), (1,), (1,), ())), False)

    def test_words_of_unlike_lengths(self):
        self.assertIs(shows_paper(ABOVE, "blind", ((), (1,), (1,), (0,), (0,))), True)
        self.assertIs(shows_paper(ABOVE, "blind", ((), (1,), (1,), (), (0,))), False)
        self.assertIs(shows_paper(ABOVE, "blind", ((), (1,), (1,), (0, 0), (0,))), False)
        self.assertIs(shows_paper(ABOVE, "named", ((), (1,), (1,), (0,), (0,))), False)

    def test_two_thousand_names(self):
        long = (0,) * 1999
        for value in (
            (long + (0,), (1,), (1,), (1,), (0,)),
            ((), long + (1,), (1,), (1,), (0,)),
            ((), (1,), long + (1,), long + (1,), (0,)),
            ((), (1,), (1,), (1,), long + (0,)),
        ):
            self.assertIs(shows_paper(ABOVE, "named", value), True)
            self.assertIs(shows_paper(ABOVE, "blind", value), True)
        for value in (
            (long + (0, 0), (1,), (1,), (1,), (0,)),
            ((), long + (1, 1), (1,), (1,), (0,)),
            ((), (1,), long + (1, 1), long + (1, 1), (0,)),
            ((), (1,), (1,), (1,), long + (0, 0)),
        ):
            self.assertIs(shows_paper(ABOVE, "named", value), False)
            self.assertIs(shows_paper(ABOVE, "blind", value), False)

    def test_values_of_every_other_kind(self):
        right = ((), (1,), (1,), (1,), (0,))
        for value in OTHER_VALUES:
            self.assertIs(shows_paper(ABOVE, "named", value), False)
            self.assertIs(shows_paper(EVEN, "named", value), value is None)
        for value in path_values(2):
            for place in range(5):
                changed = right[:place] + (value,) + right[place + 1:]
                self.assertIs(shows_paper(ABOVE, "named", changed), False)
        self.assertIs(shows_paper(ABOVE, "named", ((), (1,), (True,), (True,), (0,))), False)
        self.assertIs(shows_paper(ABOVE, "named", ((), (1,), (1,), (True,), (0,))), False)
        for value in (right[:4], right + ((),), list(right), ()):
            self.assertIs(shows_paper(ABOVE, "named", value), False)

    def test_something_where_there_is_none(self):
        found = paper(ABOVE, "named")
        for question, manner in ((OWN, "named"), (OWN, "blind"), (EVEN, "named")):
            self.assertIs(shows_paper(question, manner, found), False)

    def test_none_where_there_is_something(self):
        self.assertIs(shows_paper(ABOVE, "named", None), False)
        self.assertIs(shows_paper(EVEN, "blind", None), False)


class WrongValues(unittest.TestCase):
    FUNCTIONS = (
        (meetings, ()), (can_read, ()), (fewest_states, ()), (reader_for, ()), (paper, ()),
        (shows_reader, (None,)), (shows_paper, (None,)),
    )

    def test_bad_questions(self):
        for function, more in self.FUNCTIONS:
            for value, part in question_values():
                with self.subTest(function.__name__, value=str(value)[:60]), self.assertRaises(BadQuestion) as caught:
                    function(value, "named", *more)
                self.assertEqual(caught.exception.part, part)

    def test_bad_manners(self):
        for function, more in self.FUNCTIONS:
            for value in NO_TUPLES + ((), ("named",), "Named", "blind ", "open"):
                if value != "named":
                    with self.subTest(function.__name__, value=value), self.assertRaises(BadManner):
                        function(OWN, value, *more)

    def test_the_leftmost_error_comes_first(self):
        for function, more in self.FUNCTIONS:
            with self.assertRaises(BadQuestion) as caught:
                function((OWN[0], (0, True)), "open", *more)
            self.assertEqual(caught.exception.part, "answers")
            with self.assertRaises(BadManner):
                function(OWN, "open", *[[] for _ in more])
