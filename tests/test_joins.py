"""Points 10 and 11: questions made of questions, and how many small questions can be read."""

import random
import unittest

from markspass.errors import BadNumber, BadQuestion, BadWord, TooMany
from markspass.joins import both, count_readable, inside, renamed, turned
from markspass.meetings import can_read
from markspass.questions import answer, least_question
from tests.samples import ABOVE, EVEN, NO_NUMBERS, NO_TUPLES, ONE_NAME, OWN, RING, SIX_STATES, THREE_NAMES, UNREACHED
from tests.samples import chained, drawn_question, drawn_questions, question_values
from tests.slow import all_questions, paths_to, readable_by_words, told

WORDS = {
    "and": lambda one, other: one and other,
    "or": lambda one, other: one or other,
    "one": lambda one, other: int(one + other == 1),
    "first": lambda one, other: int(one == 1 and other == 0),
}
MANNERS = ("named", "blind")
DRAWN = (OWN, ABOVE, EVEN, ONE_NAME, THREE_NAMES, SIX_STATES, RING, UNREACHED) + tuple(drawn_questions(101, 40))


def turn(states):
    """A question of one name that is answered 1 to paths of a multiple of so many names."""
    steps = tuple(((state + 1) % states,) for state in range(states))
    return steps, (1,) + (0,) * (states - 1)


def mixing_question(draw, states):
    """A drawn question of two names, no name of which leads from two states to one."""
    columns = [draw.sample(range(states), states) for _ in range(2)]
    return tuple(zip(*columns)), tuple(draw.randrange(2) for _ in range(states))


def all_pairs(one, other, joined):
    """The question of all pairs of states of two questions, the answers joined."""
    many = len(other[0])
    steps = tuple(
        tuple(there * many + more for there, more in zip(nexts, others)) for nexts in one[0] for others in other[0]
    )
    return steps, tuple(joined(first, second) for first in one[1] for second in other[1])


def least_by_trying_within(question, longest):
    """The least question, by what is answered to all paths up to a length, of all states that come."""
    names = len(question[0][0])
    paths = paths_to(names, longest)
    ways, tellings = [()], [told(question, (), paths)]
    steps = []
    while len(steps) < len(ways):
        nexts = []
        for name in range(names):
            way = ways[len(steps)] + (name,)
            telling = told(question, way, paths)
            if telling not in tellings:
                ways.append(way)
                tellings.append(telling)
            nexts.append(tellings.index(telling))
        steps.append(tuple(nexts))
    return tuple(steps), tuple(telling[0] for telling in tellings)


class Both(unittest.TestCase):
    def test_known(self):
        self.assertEqual(both(OWN, ABOVE, "and"), OWN)
        self.assertEqual(both(ABOVE, OWN, "or"), ABOVE)
        self.assertEqual(both(ABOVE, ABOVE, "one"), (((0, 0),), (0,)))
        self.assertEqual(both(ABOVE, ABOVE, "first"), (((0, 0),), (0,)))
        self.assertEqual(both(EVEN, EVEN, "and"), EVEN)
        self.assertEqual(both(ABOVE, OWN, "first"), (((0, 1), (2, 1), (2, 1)), (0, 0, 1)))
        self.assertEqual(both(OWN, ABOVE, "first"), (((0, 0),), (0,)))

    def test_paths(self):
        draw = random.Random(102)
        for _ in range(150):
            names = draw.randrange(1, 4)
            one, other = [drawn_question(draw, draw.randrange(1, 4), names) for _ in range(2)]
            for word, joined in WORDS.items():
                try:
                    made = both(one, other, word)
                except TooMany:
                    continue
                self.assertEqual(least_question(made), made)
                for path in paths_to(names, 6 if names == 1 else 4):
                    self.assertEqual(answer(made, path), joined(answer(one, path), answer(other, path)))

    def test_just_six_states_and_more(self):
        for word in ("and", "or", "first"):
            self.assertEqual(len(both(turn(2), turn(3), word)[0]), 6)
            self.assertEqual(len(both(turn(3), turn(6), word)[0]), 3 if word == "or" else 6)
            for one, other in ((turn(3), turn(4)), (turn(5), turn(6)), (turn(4), turn(6))):
                with self.subTest(word), self.assertRaises(TooMany) as caught:
                    both(one, other, word)
                self.assertEqual(caught.exception.most, 6)
        self.assertEqual(both(turn(2), turn(3), "and"), turn(6))
        self.assertEqual(len(both(SIX_STATES, SIX_STATES, "or")[0]), 6)

    def test_more_than_six_states_by_the_least_question_of_all_pairs(self):
        draw = random.Random(103)
        many = []
        for _ in range(40):
            one, other = [mixing_question(draw, states) for states in draw.choice([(2, 3), (2, 4), (3, 3), (4, 2)])]
            for word, joined in WORDS.items():
                least = least_by_trying_within(all_pairs(one, other, joined), 8)
                many.append(len(least[0]))
                if len(least[0]) <= 6:
                    self.assertEqual(both(one, other, word), least)
                else:
                    with self.assertRaises(TooMany):
                        both(one, other, word)
        self.assertIn(6, many)
        self.assertGreater(max(many), 6)

    def test_states_that_no_path_leads_to(self):
        self.assertEqual(both(UNREACHED, UNREACHED, "and"), least_question(UNREACHED))
        self.assertEqual(both(UNREACHED, (((0, 0),), (1,)), "first"), (((0, 0),), (0,)))

    def test_bad_words(self):
        for value in NO_TUPLES + NO_NUMBERS + ("And", "and ", "xor", "not", "second", ("and",), ["and"]):
            with self.subTest(value=value), self.assertRaises(BadWord):
                both(OWN, ABOVE, value)

    def test_another_number_of_names(self):
        samples = ((((0,),), (0,)), OWN, THREE_NAMES)
        for one in samples:
            for other in samples:
                if one != other:
                    with self.assertRaises(BadQuestion) as caught:
                        both(one, other, "and")
                    self.assertEqual(caught.exception.part, "steps")

    def test_another_number_of_names_is_told_ahead_of_the_answers(self):
        for answers in (None, (), (2,), (True,), (0, 0)):
            with self.assertRaises(BadQuestion) as caught:
                both(OWN, (((0,),), answers), "and")
            self.assertEqual(caught.exception.part, "steps")
            with self.assertRaises(BadQuestion) as caught:
                both(OWN, (((0, 0),), answers), "and")
            self.assertEqual(caught.exception.part, "answers")
        with self.assertRaises(BadQuestion) as caught:
            both(OWN, (((0,),), (0,), ()), "and")
        self.assertEqual(caught.exception.part, "question")

    def test_bad_questions(self):
        for value, part in question_values():
            for things in ((value, OWN, "and"), (OWN, value, "and"), (value, None, None), (OWN, value, "none")):
                with self.subTest(value=str(value)[:60]), self.assertRaises(BadQuestion) as caught:
                    both(*things)
                self.assertEqual(caught.exception.part, part)

    def test_too_many_comes_last(self):
        with self.assertRaises(BadWord):
            both(turn(5), turn(6), "nor")
        with self.assertRaises(BadQuestion):
            both(turn(5), OWN, "and")


class Turned(unittest.TestCase):
    def test_known(self):
        self.assertEqual(turned(OWN), (OWN[0], (1, 0)))
        self.assertEqual(turned(UNREACHED), (UNREACHED[0], (1, 0, 0, 1)))

    def test_paths(self):
        for question in DRAWN:
            made = turned(question)
            self.assertEqual(turned(made), question)
            for path in paths_to(len(question[0][0]), 4):
                self.assertEqual(answer(made, path), 1 - answer(question, path))


class Inside(unittest.TestCase):
    def test_known(self):
        self.assertEqual(inside(ABOVE, 1), (((0, 0),), (1,)))
        self.assertEqual(inside(ABOVE, 0), ABOVE)
        self.assertEqual(inside(EVEN, 1), (EVEN[0], (1, 0)))
        self.assertEqual(inside(chained(6), 0), chained(5))

    def test_paths(self):
        for question in DRAWN:
            names = len(question[0][0])
            for name in range(names):
                made = inside(question, name)
                self.assertEqual(least_question(made), made)
                for path in paths_to(names, 4):
                    self.assertEqual(answer(made, path), answer(question, (name,) + path))

    def test_bad_names(self):
        for question, names in ((ONE_NAME, 1), (OWN, 2), (THREE_NAMES, 3)):
            inside(question, names - 1)
            for value in NO_NUMBERS + (names, 3, 10 ** 30, "a", (0,), [0]):
                with self.subTest(names, value=value), self.assertRaises(BadNumber):
                    inside(question, value)


class Renamed(unittest.TestCase):
    def test_known(self):
        self.assertEqual(renamed(ABOVE, (1,)), (((1,), (1,)), (0, 1)))
        self.assertEqual(renamed(ABOVE, (0, 1)), ABOVE)
        self.assertEqual(renamed(ABOVE, (1, 0)), (((1, 0), (1, 1)), (0, 1)))
        self.assertEqual(renamed(ABOVE, (1, 1, 1)), (((1, 1, 1), (1, 1, 1)), (0, 1)))
        self.assertEqual(renamed(ABOVE, (0, 0)), (((0, 0), (1, 1)), (0, 1)))
        self.assertEqual(renamed(ONE_NAME, (0, 0, 0)), (((1, 1, 1), (0, 0, 0)), (0, 1)))
        self.assertEqual(renamed(THREE_NAMES, (2, 0)), (((2, 0), (0, 1), (1, 2)), (0, 1, 1)))

    def test_paths(self):
        draw = random.Random(104)
        for question in DRAWN:
            for many in (1, 2, 3):
                names = tuple(draw.randrange(len(question[0][0])) for _ in range(many))
                made = renamed(question, names)
                for path in paths_to(many, 4):
                    self.assertEqual(answer(made, path), answer(question, tuple(names[name] for name in path)))

    def test_bad_names(self):
        for question, names in ((ONE_NAME, 1), (OWN, 2), (THREE_NAMES, 3)):
            values = NO_TUPLES + tuple((value,) for value in NO_NUMBERS) + tuple((0, value) for value in NO_NUMBERS)
            values += ((), (0,) * 4, (names,), (0, 0, names), (0, [0]), ((0,),), [0, 0])
            for value in values:
                with self.subTest(names, value=value), self.assertRaises(BadNumber):
                    renamed(question, value)


class WhatCanBeRead(unittest.TestCase):
    def test_what_is_made_of_what_can_be_read_can_be_read(self):
        made = 0
        for manner in MANNERS:
            for names in (1, 2, 3):
                drawn = drawn_questions(105, 150, (1, 2, 3, 4), (names,))
                readable = [question for question in drawn if can_read(question, manner)]
                for one, other in zip(readable, readable[1:] + readable[:1]):
                    for word in WORDS:
                        try:
                            self.assertTrue(can_read(both(one, other, word), manner))
                            made += 1
                        except TooMany:
                            pass
                    self.assertTrue(can_read(turned(one), manner))
                    for name in range(names):
                        self.assertTrue(can_read(inside(one, name), manner))
                        self.assertTrue(can_read(renamed(one, (name, 0, name)), manner))
        self.assertGreater(made, 300)


class CountReadable(unittest.TestCase):
    def test_by_all_words(self):
        for states, names in ((1, 1), (1, 2), (2, 1), (2, 2), (3, 1)):
            questions = list(all_questions(states, names))
            counts = [sum(readable_by_words(question, manner, 4) for question in questions) for manner in MANNERS]
            self.assertEqual(count_readable(states, names), (len(questions), *counts))

    def test_the_greatest(self):
        questions = list(all_questions(3, 2))
        counts = [sum(can_read(question, manner) for question in questions) for manner in MANNERS]
        self.assertEqual(count_readable(3, 2), (3 ** 6 * 2 ** 3, *counts))
        self.assertEqual(count_readable(3, 2), (5832, 3304, 2896))

    def test_the_least(self):
        self.assertEqual(count_readable(1, 1), (2, 2, 2))
        self.assertEqual(count_readable(1, 2), (2, 2, 2))

    def test_bad_numbers(self):
        for value in NO_NUMBERS + (0, 4, 10 ** 30, "1", (1,), [1]):
            with self.subTest(value=value), self.assertRaises(BadNumber):
                count_readable(value, 1)
        for value in NO_NUMBERS + (0, 3, 10 ** 30, "1", (1,), [1]):
            with self.subTest(value=value), self.assertRaises(BadNumber):
                count_readable(1, value)
        with self.assertRaises(BadNumber):
            count_readable(None, None)


class WrongValues(unittest.TestCase):
    def test_bad_questions(self):
        for function, more in ((turned, ()), (inside, (7,)), (renamed, (None,))):
            for value, part in question_values():
                with self.subTest(function.__name__, value=str(value)[:60]), self.assertRaises(BadQuestion) as caught:
                    function(value, *more)
                self.assertEqual(caught.exception.part, part)
