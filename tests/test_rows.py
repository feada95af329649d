"""Point 3: tags, rows, documents and forests."""

import unittest
from itertools import product

from markspass.errors import BadForest, BadQuestion, BadRow
from markspass.questions import answer
from markspass.rows import answers_due, forest_of, left_open, row_of, told_forest
from tests.samples import ABOVE, EVEN, ONE_NAME, OWN, THREE_NAMES
from tests.samples import forest_values, nested, question_values, row_values
from tests.slow import path_behind


def rows_to(names, longest):
    """All rows of so many names up to a length."""
    found = []
    for length in range(longest + 1):
        for tags in product(range(-1, names), repeat=length):
            depths = [sum(1 if tag >= 0 else -1 for tag in tags[:end]) for end in range(1, length + 1)]
            if all(depth >= 0 for depth in depths):
                found.append(tags)
    return found


class LeftOpen(unittest.TestCase):
    def test_known(self):
        self.assertEqual(left_open(ABOVE, ()), ())
        self.assertEqual(left_open(ABOVE, (0, 1)), (0, 1))
        self.assertEqual(left_open(ABOVE, (0, 1, -1, -1)), ())
        self.assertEqual(left_open(THREE_NAMES, (2, 1, -1, 0, 1, -1)), (2, 0))

    def test_all_short_rows(self):
        for row in rows_to(2, 6):
            self.assertEqual(left_open(EVEN, row), path_behind(row))

    def test_two_thousand_tags(self):
        self.assertEqual(left_open(ABOVE, (1,) * 2000), (1,) * 2000)
        self.assertEqual(left_open(ABOVE, (1,) * 1000 + (-1,) * 1000), ())


class AnswersDue(unittest.TestCase):
    def test_known(self):
        self.assertEqual(answers_due(ABOVE, ()), ())
        self.assertEqual(answers_due(ABOVE, (1, 0, -1, -1, 0, 1, 0)), (1, 1, 0, 1, 1))
        self.assertEqual(answers_due(OWN, (1, 0, -1, 1, -1, -1, 0)), (1, 0, 1, 0))

    def test_the_opened_name_is_the_last(self):
        self.assertEqual(answers_due((((1,), (2,), (2,)), (0, 0, 1)), (0, 0, 0)), (0, 1, 1))

    def test_all_short_rows(self):
        for question in (ABOVE, EVEN):
            for row in rows_to(2, 6):
                ends = [end for end in range(1, len(row) + 1) if row[end - 1] >= 0]
                due = tuple(answer(question, path_behind(row[:end])) for end in ends)
                self.assertEqual(answers_due(question, row), due)

    def test_two_thousand_tags(self):
        self.assertEqual(answers_due(EVEN, (1,) * 2000), (1, 0) * 1000)
        self.assertEqual(answers_due(ABOVE, (0, -1) * 1000), (0,) * 1000)


class BadRows(unittest.TestCase):
    def test_rows_beside_a_question(self):
        for told_of in (left_open, answers_due):
            for question, names in ((ONE_NAME, 1), (ABOVE, 2), (THREE_NAMES, 3)):
                for value, place in row_values(names):
                    with self.subTest(names, value=str(value)[:60]), self.assertRaises(BadRow) as caught:
                        told_of(question, value)
                    self.assertEqual(caught.exception.place, place)

    def test_names_are_those_of_the_question(self):
        for told_of in (left_open, answers_due):
            for question, names in ((ONE_NAME, 1), (OWN, 2), (THREE_NAMES, 3)):
                self.assertEqual(len(told_of(question, (0, names - 1))), 2)
                with self.assertRaises(BadRow) as caught:
                    told_of(question, (0, names))
                self.assertEqual(caught.exception.place, 1)

    def test_bad_questions_come_first(self):
        for told_of in (left_open, answers_due):
            for value, part in question_values():
                for row in ((), (-1,), None):
                    with self.subTest(value=str(value)[:60]), self.assertRaises(BadQuestion) as caught:
                        told_of(value, row)
                    self.assertEqual(caught.exception.part, part)

    def test_rows_without_a_question_have_three_names(self):
        self.assertEqual(forest_of((2, -1)), ((2, ()),))
        for value, place in row_values(3):
            with self.subTest(value=str(value)[:60]), self.assertRaises(BadRow) as caught:
                forest_of(value)
            self.assertEqual(caught.exception.place, place)


class RowOf(unittest.TestCase):
    def test_known(self):
        self.assertEqual(row_of(()), ())
        self.assertEqual(row_of(((2, ()),)), (2, -1))
        self.assertEqual(row_of(((0, ((1, ()), (2, ()))), (1, ()))), (0, 1, -1, 2, -1, -1, 1, -1))

    def test_forty_within_one_another(self):
        self.assertEqual(row_of(nested(40)), (0,) * 40 + (-1,) * 40)
        self.assertEqual(row_of(nested(40) + nested(40)), ((0,) * 40 + (-1,) * 40) * 2)

    def test_a_thousand_marks(self):
        self.assertEqual(row_of(((0, ()),) * 1000), (0, -1) * 1000)
        self.assertEqual(row_of(nested(40) * 25), ((0,) * 40 + (-1,) * 40) * 25)
        self.assertEqual(len(row_of(((1, ((0, ()),) * 999),))), 2000)
        for forest in (nested(40) * 25 + ((0, ()),), ((1, ((0, ()),) * 999), (0, ()))):
            with self.assertRaises(BadForest):
                row_of(forest)

    def test_bad_forests(self):
        for number, value in enumerate(forest_values(3)):
            with self.subTest(number), self.assertRaises(BadForest):
                row_of(value)


class ForestOf(unittest.TestCase):
    def test_known(self):
        self.assertEqual(forest_of(()), ())
        self.assertEqual(forest_of((0, 1, -1, 2, -1, -1, 1, -1)), ((0, ((1, ()), (2, ()))), (1, ())))

    def test_turns_row_of_around(self):
        for row in rows_to(3, 6):
            if path_behind(row) == ():
                self.assertEqual(row_of(forest_of(row)), row)
                self.assertEqual(forest_of(row_of(forest_of(row))), forest_of(row))

    def test_two_thousand_tags(self):
        self.assertEqual(forest_of((0, -1) * 1000), ((0, ()),) * 1000)
        self.assertEqual(forest_of(((0,) * 40 + (-1,) * 40) * 25), nested(40) * 25)

    def test_rows_that_leave_marks_open(self):
        for row in [(0,), (0, 1, -1), (0, -1, 1), (2,) * 40, (0, -1) * 999 + (1,), (0, -1) * 999 + (1, 1)]:
            with self.subTest(row[:9]), self.assertRaises(BadRow) as caught:
                forest_of(row)
            self.assertEqual(caught.exception.place, len(row))

    def test_forty_one_within_one_another(self):
        for row, place in [
            ((0,) * 41, 40),
            ((0,) * 2000, 40),
            ((0,) * 41 + (-1,) * 41, 40),
            ((1, -1) + (0,) * 41 + (-1,) * 41, 42),
            ((0,) * 40 + (-1, 1, 1, -1), 42),
            (((0,) * 41 + (-1,) * 41) * 2, 40),
        ]:
            with self.subTest(place), self.assertRaises(BadRow) as caught:
                forest_of(row)
            self.assertEqual(caught.exception.place, place)

    def test_values_that_are_no_rows_come_first(self):
        for row, place in [((0,) * 41 + (3,), 41), ((0,) * 42 + (-1,) * 43, 84), ((0,) * 2001, None), ((0, 0, None), 2)]:
            with self.subTest(place), self.assertRaises(BadRow) as caught:
                forest_of(row)
            self.assertEqual(caught.exception.place, place)


class ToldForest(unittest.TestCase):
    def test_known(self):
        self.assertEqual(told_forest(OWN, ()), ())
        told = ((1, 1, ((0, 1, ()), (1, 0, ()))), (0, 0, ()), (1, 1, ()))
        self.assertEqual(told_forest(EVEN, ((1, ((0, ()), (1, ()))), (0, ()), (1, ()))), told)

    def test_tells_what_is_due(self):
        def told_answers(told):
            return [got for _, due, within in told for got in [due] + told_answers(within)]

        def untold(told):
            return tuple((name, untold(within)) for name, _, within in told)

        for row in rows_to(2, 6):
            if path_behind(row) == ():
                for question in (ABOVE, EVEN):
                    told = told_forest(question, forest_of(row))
                    self.assertEqual(tuple(told_answers(told)), answers_due(question, row))
                    self.assertEqual(untold(told), forest_of(row))

    def test_forty_within_one_another_and_a_thousand_marks(self):
        told = told_forest(ONE_NAME, nested(40))
        for level in range(40):
            self.assertEqual(told[0][:2], (0, (level + 1) % 2))
            told = told[0][2]
        self.assertEqual(told, ())
        self.assertEqual(told_forest(OWN, ((1, ()),) * 1000), ((1, 1, ()),) * 1000)

    def test_bad_forests(self):
        for question, names in ((ONE_NAME, 1), (OWN, 2), (THREE_NAMES, 3)):
            for number, value in enumerate(forest_values(names)):
                with self.subTest(number, names=names), self.assertRaises(BadForest):
                    told_forest(question, value)

    def test_names_are_those_of_the_question(self):
        for question, names in ((ONE_NAME, 1), (OWN, 2), (THREE_NAMES, 3)):
            self.assertEqual(told_forest(question, ((names - 1, ()),))[0][0], names - 1)
            for forest in (((names, ()),), ((0, ((names, ()),)),), ((0, ()), (names, ()))):
                with self.assertRaises(BadForest):
                    told_forest(question, forest)

    def test_bad_questions_come_first(self):
        for value, part in question_values():
            for forest in ((), None):
                with self.subTest(value=str(value)[:60]), self.assertRaises(BadQuestion) as caught:
                    told_forest(value, forest)
                self.assertEqual(caught.exception.part, part)
