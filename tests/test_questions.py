"""Points 2 and 4: questions, paths, least questions, states alike below."""

import unittest

from markspass.errors import BadPath, BadQuestion
from markspass.questions import answer, below_lots, least_question
from tests.samples import ABOVE, EVEN, ONE_NAME, OWN, SIX_STATES, THREE_NAMES
from tests.samples import chained, path_values, question_values
from tests.slow import all_questions, least_by_trying, paths_to, walked


class Answer(unittest.TestCase):
    def test_the_empty_path_has_the_first_state(self):
        self.assertEqual(answer(OWN, ()), 0)
        self.assertEqual(answer((((0,),), (1,)), ()), 1)

    def test_goes_name_by_name(self):
        self.assertEqual([answer(OWN, path) for path in [(0,), (1,), (1, 0), (0, 1)]], [0, 1, 0, 1])
        self.assertEqual([answer(THREE_NAMES, path) for path in [(0,), (1,), (2, 1), (1, 2, 2)]], [0, 1, 0, 1])
        for question in (OWN, ABOVE, EVEN, ONE_NAME, THREE_NAMES, SIX_STATES):
            for path in paths_to(len(question[0][0]), 5):
                self.assertEqual(answer(question, path), question[1][walked(question, 0, path)])

    def test_two_thousand_names(self):
        self.assertEqual(answer(EVEN, (1,) * 2000), 0)
        self.assertEqual(answer(EVEN, (1,) * 1999), 1)
        self.assertEqual(answer(ABOVE, (0,) * 1999 + (1,)), 1)

    def test_bad_paths(self):
        for question, names in ((ONE_NAME, 1), (ABOVE, 2), (THREE_NAMES, 3)):
            for value in path_values(names):
                with self.subTest(names, value=str(value)[:60]), self.assertRaises(BadPath):
                    answer(question, value)

    def test_names_are_those_of_the_question(self):
        for question, names in ((ONE_NAME, 1), (OWN, 2), (THREE_NAMES, 3)):
            self.assertIn(answer(question, (names - 1,)), (0, 1))
            with self.assertRaises(BadPath):
                answer(question, (names,))

    def test_bad_questions(self):
        for value, part in question_values():
            with self.subTest(value=str(value)[:60]), self.assertRaises(BadQuestion) as caught:
                answer(value, ())
            self.assertEqual(caught.exception.part, part)

    def test_the_leftmost_error_comes_first(self):
        with self.assertRaises(BadQuestion) as caught:
            answer((OWN[0], (0, 2)), (7,))
        self.assertEqual(caught.exception.part, "answers")
        with self.assertRaises(BadQuestion):
            answer(None, None)


class Sizes(unittest.TestCase):
    def test_one_to_six_states(self):
        for states in range(1, 7):
            self.assertEqual(answer(chained(states), (0,) * (states - 1)), 1)
            self.assertEqual(least_question(chained(states)), chained(states))
        for states in (0, 7):
            for told_of in (least_question, below_lots):
                with self.subTest(states), self.assertRaises(BadQuestion) as caught:
                    told_of(chained(states))
                self.assertEqual(caught.exception.part, "steps")

    def test_one_to_three_names(self):
        for names in range(1, 4):
            self.assertEqual(answer((((0,) * names,), (1,)), (names - 1,)), 1)
        for names in (0, 4):
            with self.subTest(names), self.assertRaises(BadQuestion) as caught:
                answer((((0,) * names,), (1,)), ())
            self.assertEqual(caught.exception.part, "steps")


class LeastQuestion(unittest.TestCase):
    def test_known(self):
        self.assertEqual(least_question(EVEN), EVEN)
        self.assertEqual(least_question((((0, 0), (0, 1)), (1, 0))), (((0, 0),), (1,)))
        self.assertEqual(least_question((((1,), (0,)), (1, 1))), (((0,),), (1,)))

    def test_numbered_state_by_state_and_name_by_name(self):
        question = (((3, 1), (2, 1), (2, 0), (1, 3)), (0, 1, 0, 1))
        self.assertEqual(least_question(question), least_by_trying(question)[0])
        crossed = (((2, 1), (0, 0), (1, 1)), (0, 0, 1))
        self.assertEqual(least_question(crossed), (((1, 2), (2, 2), (0, 0)), (0, 1, 0)))

    def test_the_empty_path_counts(self):
        self.assertEqual(least_question((((1,), (1,)), (1, 0))), (((1,), (1,)), (1, 0)))

    def test_states_that_are_not_reached_do_not_stay(self):
        self.assertEqual(least_question((((0, 0),) + OWN[0], (0, 0, 1))), (((0, 0),), (0,)))

    def test_six_states_that_differ_late(self):
        self.assertEqual(least_question(SIX_STATES), SIX_STATES)
        ring = ((1,), (2,), (3,), (4,), (5,), (0,))
        self.assertEqual(least_question((ring, (0, 0, 0, 0, 0, 1))), (ring, (0, 0, 0, 0, 0, 1)))
        self.assertEqual(least_question((ring, (0, 1, 0, 0, 1, 0))), (((1,), (2,), (0,)), (0, 1, 0)))
        self.assertEqual(least_question((ring, (0, 1, 0, 1, 0, 1))), (((1,), (0,)), (0, 1)))

    def test_all_small_questions(self):
        for states, names in ((1, 1), (1, 2), (1, 3), (2, 1), (2, 2), (2, 3), (3, 1)):
            for question in all_questions(states, names):
                self.assertEqual(least_question(question), least_by_trying(question)[0])

    def test_some_larger_questions(self):
        for number, question in enumerate(all_questions(3, 2)):
            if number % 7 == 0:
                self.assertEqual(least_question(question), least_by_trying(question)[0])
        for number in range(40):
            steps = tuple(((number * state + 1) % 6, (number + state * state) % 6) for state in range(6))
            question = steps, tuple((number >> state) & 1 for state in range(6))
            self.assertEqual(least_question(question), least_by_trying(question)[0])

    def test_bad_questions(self):
        for value, part in question_values():
            with self.subTest(value=str(value)[:60]), self.assertRaises(BadQuestion) as caught:
                least_question(value)
            self.assertEqual(caught.exception.part, part)


class BelowLots(unittest.TestCase):
    def test_known(self):
        self.assertEqual([below_lots(OWN), below_lots(ABOVE), below_lots(EVEN)], [(0, 0), (0, 1), (0, 1)])
        self.assertEqual(below_lots((((1,), (1,)), (1, 0))), (0, 0))

    def test_as_they_first_come(self):
        question = (((1, 2, 0), (0, 1, 2), (1, 2, 0)), (0, 0, 1))
        self.assertEqual(below_lots(question), (0, 1, 0))

    def test_of_the_least_question(self):
        self.assertEqual(below_lots((((1, 2), (1, 2), (1, 2)), (0, 0, 1))), (0, 0))
        self.assertEqual(below_lots((((0,), (1,)), (0, 1))), (0,))

    def test_all_small_questions(self):
        for states, names in ((1, 1), (1, 3), (2, 1), (2, 2), (2, 3), (3, 1)):
            for question in all_questions(states, names):
                self.assertEqual(below_lots(question), least_by_trying(question)[1])

    def test_some_larger_questions(self):
        for number, question in enumerate(all_questions(3, 2)):
            if number % 11 == 0:
                self.assertEqual(below_lots(question), least_by_trying(question)[1])
        self.assertEqual(below_lots(SIX_STATES), (0, 1, 2, 3, 4, 4))

    def test_bad_questions(self):
        for value, part in question_values():
            with self.subTest(value=str(value)[:60]), self.assertRaises(BadQuestion) as caught:
                below_lots(value)
            self.assertEqual(caught.exception.part, part)
