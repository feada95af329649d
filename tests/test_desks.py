"""Point 13: a desk, before whose reader tags pass one by one, and are taken back."""

import random
import unittest

from markspass.desks import Desk
from markspass.errors import BadLine, BadManner, BadQuestion, BadReader, BadStep, MarkError, TooMany
from markspass.readers import reading
from markspass.rows import answers_due, left_open
from markspass.texts import read_row, write_row
from tests.ring_slow import given_and_state
from tests.samples import ABOVE, DEEP, EVEN, NO_NUMBERS, NO_TUPLES, ONE_NAME, OWN, THREE_NAMES
from tests.samples import drawn_question, drawn_reader, nested, question_values, reader_values
from tests.slow import rows_to

MANNERS = ("named", "blind")
PLAIN = ((((0, 0), (0, 1)),), ((0, 0),))
# It counts the openings of name 1 by twos, and takes back what is closed.
PAIRED = ((((0, 0), (1, 1)), ((1, 1), (0, 0))), ((0, 1), (1, 0)))
NO_TAGS = (None, True, False, -2, 2, 3, 10 ** 30, "", "0", "a", ")", (), (0,), [], [0], {}, {0: 0}, nested(DEEP))
NO_LINES = NO_TUPLES + (
    "c", "d", "A", "ab", "a ", " a", "a\n", "))", "(", "1", "Back", "back ", "done", "rows", "State", "undo", "a b",
    (), (0,), ("a",), nested(DEEP), "-1", "row\n", "state 0", "tag a", "\u0430",
)


def seen(desk):
    """All that a desk tells."""
    return desk.row, desk.state, desk.wrong, desk.do("row"), desk.do("state"), desk.do("wrong")


class Desks(unittest.TestCase):
    def hold_like_the_row(self, desk, question, manner, reader, row):
        """See that a desk tells of a row what the functions tell."""
        due, given = answers_due(question, row), reading(question, manner, reader, row)
        wrong = tuple(number for number in range(len(due)) if due[number] != given[number])
        self.assertEqual(desk.row, row)
        self.assertEqual(desk.state, given_and_state(manner, reader, row)[1])
        self.assertEqual(desk.wrong, wrong)
        self.assertEqual(desk.do("row"), write_row(row))
        self.assertEqual(desk.do("state"), str(desk.state))
        self.assertEqual(desk.do("wrong"), " ".join(str(number) for number in wrong))
        self.assertEqual(read_row(3, desk.do("row")), row)

    def test_known(self):
        desk = Desk(ABOVE, "named", PLAIN)
        self.assertEqual(seen(desk), ((), 0, (), "", "0", ""))
        self.assertEqual([desk.tag(1), desk.tag(0), desk.tag(-1), desk.tag(0)], [(1, 1), (1, 0), None, (1, 0)])
        self.assertEqual(seen(desk), ((1, 0, -1, 0), 0, (1, 2), "ba)a", "0", "1 2"))
        self.assertEqual([desk.back(), desk.back(), desk.wrong], [None, None, (1,)])
        self.assertEqual([desk.do("a"), desk.do(")"), desk.do("b"), desk.do("back")], ["1 0", "done", "1 1", "done"])
        self.assertEqual(desk.row, (1, 0, 0, -1))
        self.assertEqual(desk.do("wrong"), "1 2")

    def test_all_short_rows(self):
        for manner, question, reader in (
            ("named", EVEN, PAIRED), ("blind", EVEN, (PAIRED[0], ((1,), (0,)))), ("named", ABOVE, PAIRED),
        ):
            for row in rows_to(2, 5):
                desk = Desk(question, manner, reader)
                told = [desk.tag(tag) for tag in row]
                due, given = answers_due(question, row), reading(question, manner, reader, row)
                self.assertEqual([pair for pair in told if pair is not None], list(zip(due, given)))
                self.assertEqual([pair is None for pair in told], [tag == -1 for tag in row])
                self.hold_like_the_row(desk, question, manner, reader, row)
                for end in range(len(row) - 1, -1, -1):
                    self.assertIsNone(desk.back())
                    self.hold_like_the_row(desk, question, manner, reader, row[:end])

    def test_drawn_steps(self):
        draw = random.Random(131)
        for _ in range(60):
            names, manner = draw.randrange(1, 4), draw.choice(MANNERS)
            question = drawn_question(draw, draw.randrange(1, 7), names)
            reader = drawn_reader(draw, draw.randrange(1, 7), names, manner)
            desk, row = Desk(question, manner, reader), ()
            for _ in range(60):
                row = self.step(draw, desk, question, manner, reader, row)
                self.hold_like_the_row(desk, question, manner, reader, row)

    def step(self, draw, desk, question, manner, reader, row):
        """Let a drawn tag pass, by tag or by do, or take one back; the row behind it."""
        tag = draw.randrange(-2, len(question[0][0]))
        by_line = draw.randrange(2) == 1
        if tag == -2 and row != ():
            self.assertEqual(desk.do("back") if by_line else desk.back(), "done" if by_line else None)
            return row[:-1]
        if tag == -2 or (tag == -1 and left_open(question, row) == ()):
            return row
        row += (tag,)
        told = desk.do("abc)"[tag]) if by_line else desk.tag(tag)
        if tag == -1:
            self.assertEqual(told, "done" if by_line else None)
            return row
        due, given = answers_due(question, row)[-1], reading(question, manner, reader, row)[-1]
        self.assertEqual(told, f"{due} {given}" if by_line else (due, given))
        return row

    def test_answers_are_new_and_plain(self):
        desk = Desk(EVEN, "named", PAIRED)
        row, wrong = desk.row, desk.wrong
        desk.tag(1)
        self.assertEqual([row, wrong, desk.row], [(), (), (1,)])
        for value in (desk.tag(0), desk.row, desk.wrong):
            self.assertIsInstance(value, tuple)
        self.assertIs(type(desk.state), int)

    def test_two_desks_are_apart(self):
        one, other = Desk(EVEN, "named", PAIRED), Desk(EVEN, "named", PAIRED)
        one.tag(1)
        self.assertEqual(seen(other), ((), 0, (), "", "0", ""))
        self.assertEqual(one.row, (1,))

    def test_one_to_six_states_and_one_to_three_names(self):
        draw = random.Random(132)
        for states in range(1, 7):
            for names, letters in ((1, "a"), (2, "ab"), (3, "abc")):
                for manner in MANNERS:
                    question = drawn_question(draw, states, names)
                    reader = drawn_reader(draw, states, names, manner)
                    desk = Desk(question, manner, reader)
                    for letter in letters:
                        desk.do(letter)
                        desk.do(")")
                    self.hold_like_the_row(desk, question, manner, reader, read_row(names, ")".join(letters) + ")"))


class WrongSteps(unittest.TestCase):
    def hold_refused(self, desk, error, call, *arguments):
        """See that a call raises an error and changes nothing."""
        before = seen(desk)
        with self.assertRaises(error) as caught:
            call(*arguments)
        self.assertIs(type(caught.exception), error)
        self.assertEqual(seen(desk), before)
        return caught.exception

    def desks(self):
        """Desks of two names, before which some rows have passed."""
        for row in ((), (1,), (1, -1), (0, 1, -1, -1), (1, 1, 1, -1)):
            for question in (EVEN, ABOVE):
                desk = Desk(question, "named", PAIRED)
                for tag in row:
                    desk.tag(tag)
                yield desk

    def test_bad_tags(self):
        for desk in self.desks():
            for value in NO_TAGS:
                self.hold_refused(desk, BadStep, desk.tag, value)

    def test_names_are_those_of_the_question(self):
        for names, question in ((1, ONE_NAME), (2, OWN), (3, THREE_NAMES)):
            desk = Desk(question, "blind", ((((0, 1),) * names,), ((0,),)))
            for name in range(4):
                if name < names:
                    self.assertEqual(desk.tag(name)[1], 1)
                    self.assertEqual(desk.do("abc"[name])[1:], " 1")
                else:
                    self.hold_refused(desk, BadStep, desk.tag, name)
                    self.assertEqual(self.hold_refused(desk, BadLine, desk.do, "abcd"[name]).line, 0)

    def test_closings_of_what_is_not_open(self):
        for desk in self.desks():
            while left_open(EVEN, desk.row) != ():
                desk.tag(-1)
            self.hold_refused(desk, BadStep, desk.tag, -1)
            self.hold_refused(desk, BadStep, desk.do, ")")

    def test_nothing_to_take_back(self):
        for desk in self.desks():
            while desk.row != ():
                desk.back()
            self.hold_refused(desk, BadStep, desk.back)
            self.hold_refused(desk, BadStep, desk.do, "back")
            self.assertEqual(seen(desk), ((), 0, (), "", "0", ""))

    def test_bad_lines(self):
        for desk in self.desks():
            for value in NO_LINES:
                if value not in ("a", "b"):
                    self.assertEqual(self.hold_refused(desk, BadLine, desk.do, value).line, 0)

    def test_two_thousand_tags(self):
        for tags in ((1,) * 2000, (0, -1) * 1000, (1,) * 1000 + (-1,) * 1000):
            desk = Desk(EVEN, "named", PAIRED)
            for tag in tags:
                desk.tag(tag)
            self.assertEqual(desk.row, tags)
            for call, value in ((desk.tag, 0), (desk.tag, 1), (desk.do, "a"), (desk.do, "b")):
                self.assertEqual(self.hold_refused(desk, TooMany, call, value).most, 2000)
            open_marks = left_open(EVEN, tags) != ()
            self.hold_refused(desk, TooMany if open_marks else BadStep, desk.tag, -1)
            self.hold_refused(desk, TooMany if open_marks else BadStep, desk.do, ")")
            # TooMany comes after all others.
            for value in NO_TAGS:
                self.hold_refused(desk, BadStep, desk.tag, value)
            for value in NO_LINES:
                if value not in ("a", "b"):
                    self.hold_refused(desk, BadLine, desk.do, value)
            desk.back()
            self.assertEqual(desk.row, tags[:-1])
            desk.tag(0)
            self.hold_refused(desk, TooMany, desk.tag, -1)

    def test_after_an_error_all_goes_on(self):
        desk = Desk(EVEN, "named", PAIRED)
        for tag in (1, "x", 0, None, -1, -1, -1, 2, 1):
            try:
                desk.tag(tag)
            except MarkError:
                pass
        self.assertEqual(seen(desk), ((1, 0, -1, -1, 1), 1, (), "ba))b", "1", ""))


class WrongValues(unittest.TestCase):
    def test_bad_questions(self):
        for value, part in question_values():
            with self.subTest(value=str(value)[:60]), self.assertRaises(BadQuestion) as caught:
                Desk(value, "named", PLAIN)
            self.assertEqual(caught.exception.part, part)

    def test_bad_manners(self):
        for value in NO_TUPLES + NO_NUMBERS + ("Named", "blind "):
            if value != "named":
                with self.subTest(value=value), self.assertRaises(BadManner):
                    Desk(OWN, value, PLAIN)

    def test_bad_readers(self):
        for manner, ways in (("named", 2), ("blind", 1)):
            for value, part in reader_values(ways):
                with self.subTest(value=str(value)[:60]), self.assertRaises(BadReader) as caught:
                    Desk(OWN, manner, value)
                self.assertEqual(caught.exception.part, part)

    def test_the_leftmost_error_comes_first(self):
        with self.assertRaises(BadQuestion):
            Desk(None, None, None)
        with self.assertRaises(BadManner):
            Desk(OWN, None, None)
        with self.assertRaises(BadReader):
            Desk(OWN, "blind", PLAIN)
