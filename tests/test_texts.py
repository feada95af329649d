"""Point 12: the texts of rows, of questions and of readers."""

import random
import re
import unittest

from markspass.errors import BadLine, BadManner, BadNumber, BadQuestion, BadReader, BadRow, BadText
from markspass.texts import read_question, read_reader, read_row, write_question, write_reader, write_row
from tests.samples import ABOVE, DEEP, EVEN, NO_NUMBERS, NO_TUPLES, ONE_NAME, OWN, RING, SIX_STATES, THREE_NAMES
from tests.samples import chained, drawn_question, drawn_questions, drawn_reader, nested, question_values
from tests.samples import reader_values, row_values
from tests.slow import all_questions, all_readers, rows_to

MANNERS = ("named", "blind")
NO_STRINGS = tuple(value for value in NO_TUPLES if not isinstance(value, str)) + ((), (0,), ("a",), nested(DEEP))
NO_NAMES = NO_NUMBERS + (0, 4, 10, 10 ** 30, "1", (1,), [1])
PLAIN = ((((0, 0), (0, 1)),), ((0, 0),))
# Signs of all kinds, digits that aren't those from 0 to 9 and ends of lines among them.
SIGNS = "012345678 \n\t\r/abstqx)(-+\u00b2\u0660\u2028\x00\x1c"


def text_by_looking(row):
    """The text of a row, written by other means."""
    return "".join({0: "a", 1: "b", 2: "c", -1: ")"}[tag] for tag in row)


def bad_place(names, text):
    """The place of the first sign of a text that is wrong, None for the text of a row."""
    for place in range(len(text)):
        begun = text[:place + 1]
        letters = sum(begun.count(letter) for letter in "abc"[:names])
        if letters + begun.count(")") <= place or begun.count(")") > letters or place >= 2000:
            return place
    return None


def bad_line(text, form, fits):
    """The number of the first line that is wrong, None for a right text; form is a pattern, fits a test of it."""
    if text == "":
        return 0
    if not text.endswith("\n"):
        return text.count("\n")
    lines = text[:-1].split("\n")
    for number, line in enumerate(lines):
        found = re.fullmatch(form, line)
        if not found or number > 5 or found[1] != str(number) or not fits(found, lines):
            return number
    return None


def nexts_fit(words, lines):
    """Whether all words are figures of next states."""
    return all(int(word) < min(6, len(lines)) for word in words)


def bad_question_line(text):
    """The number of the first line that is wrong in a text of a question, None without any."""
    def fits(found, lines):
        nexts = found[2].split(" ")
        return nexts_fit(nexts, lines) and len(nexts) == len(lines[0].split(" ")) - 5

    return bad_line(text, r"state ([0-9]) answer [01] to ([0-9](?: [0-9]){0,2})", fits)


def bad_reader_line(names, manner, text):
    """The number of the first line that is wrong in a text of a reader, None without any."""
    def fits(found, lines):
        return nexts_fit([pair[0] for pair in found[2].split(" ")] + found[3].split(" "), lines)

    ways = names if manner == "named" else 1
    pairs, nexts = " ".join(["[0-9]/[01]"] * names), " ".join(["[0-9]"] * ways)
    return bad_line(text, rf"state ([0-9]) opens ({pairs}) closes ({nexts})", fits)


def changed(draw, text, signs=SIGNS):
    """The text with a sign, or a line, taken out, put in or put in place of another."""
    place = draw.randrange(len(text) + 1)
    kind = draw.randrange(6)
    if kind == 0:
        return text[:place] + text[place + 1:]
    if kind == 1:
        return text[:place] + draw.choice(signs) + text[place:]
    if kind == 2:
        return text[:place] + draw.choice(signs) + text[place + 1:]
    lines = text.splitlines(keepends=True) + [""]
    number = draw.randrange(len(lines))
    if kind == 3:
        return "".join(lines[:number] + lines[number + 1:])
    if kind == 4:
        lines[number] = lines[number].replace(draw.choice("012"), draw.choice("0123456789"))
        return "".join(lines)
    return "".join(lines[:number] + [lines[0]] + lines[number:])


class Rows(unittest.TestCase):
    def test_known(self):
        self.assertEqual(write_row(()), "")
        self.assertEqual(write_row((0, 1, 2, -1, -1, -1)), "abc)))")
        self.assertEqual(read_row(3, "abc)))"), (0, 1, 2, -1, -1, -1))
        self.assertEqual(read_row(1, ""), ())
        self.assertEqual(read_row(2, "ab))"), (0, 1, -1, -1))
        self.assertEqual(read_row(1, "a)a"), (0, -1, 0))

    def test_all_short_rows(self):
        for names in (1, 2, 3):
            for row in rows_to(names, 5):
                text = write_row(row)
                self.assertEqual(text, text_by_looking(row))
                for many in range(names, 4):
                    self.assertEqual(read_row(many, text), row)

    def test_two_thousand_tags(self):
        for row in ((0,) * 2000, (2, -1) * 1000, (1,) * 1000 + (-1,) * 1000):
            self.assertEqual(write_row(row), text_by_looking(row))
            self.assertEqual(read_row(3, write_row(row)), row)

    def test_a_two_thousand_and_first_sign(self):
        for text, place in (
            ("a" * 2001, 2000), ("a" * 2000 + "b", 2000), ("a)" * 1000 + ")", 2000), ("a" * 3000, 2000),
            ("a" * 2000 + "?", 2000), ("a" * 1999 + "b" + "a", 1999), ("a" * 1999 + "?a", 1999), ("a" * 2000, None),
        ):
            with self.subTest(text=text[-3:]):
                self.assertEqual(bad_place(1, text), place)
                if place is not None:
                    with self.assertRaises(BadText) as caught:
                        read_row(1, text)
                    self.assertEqual(caught.exception.place, place)

    def test_bad_texts(self):
        for names, text, place in (
            (1, ")", 0), (1, "a))", 2), (1, "b", 0), (2, "abc", 2), (3, "abcd", 3), (3, "A", 0), (3, "a b", 1),
            (3, "a\n", 1), (3, "0", 0), (3, "a]", 1), (1, "a)?)", 2), (3, "a(", 1), (3, "\u0430", 0), (3, "ab)))a", 4),
        ):
            with self.subTest(text=text), self.assertRaises(BadText) as caught:
                read_row(names, text)
            self.assertEqual(caught.exception.place, place)

    def test_all_short_texts(self):
        texts = [""]
        for text in texts:
            if len(text) < 4:
                texts += [text + sign for sign in "abcd) "]
        for names in (1, 2, 3):
            for text in texts:
                place = bad_place(names, text)
                if place is None:
                    self.assertEqual(write_row(read_row(names, text)), text)
                else:
                    with self.assertRaises(BadText) as caught:
                        read_row(names, text)
                    self.assertEqual(caught.exception.place, place)

    def test_values_that_are_no_strings(self):
        for number, value in enumerate(NO_STRINGS + (b"a", b"")):
            with self.subTest(number), self.assertRaises(BadText) as caught:
                read_row(1, value)
            self.assertIsNone(caught.exception.place)

    def test_bad_rows(self):
        for value, place in row_values(3):
            with self.subTest(value=str(value)[:60]), self.assertRaises(BadRow) as caught:
                write_row(value)
            self.assertEqual(caught.exception.place, place)


class Questions(unittest.TestCase):
    def test_known(self):
        self.assertEqual(write_question(EVEN), "state 0 answer 0 to 0 1\nstate 1 answer 1 to 1 0\n")
        self.assertEqual(read_question("state 0 answer 1 to 0\n"), (((0,),), (1,)))
        self.assertEqual(
            write_question(THREE_NAMES),
            "state 0 answer 0 to 0 1 2\nstate 1 answer 1 to 1 2 0\nstate 2 answer 1 to 2 0 1\n",
        )

    def test_there_and_back(self):
        questions = [OWN, ABOVE, EVEN, ONE_NAME, THREE_NAMES, RING, SIX_STATES] + drawn_questions(121, 200)
        for states, names in ((1, 1), (1, 2), (1, 3), (2, 1), (2, 2), (3, 1)):
            questions += all_questions(states, names)
        for question in questions:
            text = write_question(question)
            self.assertEqual(read_question(text), question)
            self.assertIsNone(bad_question_line(text))
            self.assertEqual(text.count("\n"), len(question[0]))

    def refused(self, text, line):
        """See that a text is refused for a line."""
        with self.subTest(text=text), self.assertRaises(BadLine) as caught:
            read_question(text)
        self.assertEqual(caught.exception.line, line)

    def test_bad_lines(self):
        first, second = "state 0 answer 0 to 0 1\n", "state 1 answer 1 to 1 0\n"
        for text, line in (
            ("", 0), ("\n", 0), ("state 0 answer 0 to 1\n", 0), ("state 0 answer 0 to\n", 0),
            ("state 0 answer 0 to \n", 0), ("state 0 answer 0 to 0 \n", 0), (" state 0 answer 0 to 0\n", 0),
            ("state 0 answer  0 to 0\n", 0), ("state 0\tanswer 0 to 0\n", 0), ("state 0 answer 2 to 0\n", 0),
            ("state 00 answer 0 to 0\n", 0), ("state 0 answer 00 to 0\n", 0), ("state 0 answer 0 to 00\n", 0),
            ("state 1 answer 0 to 0\n", 0), ("State 0 answer 0 to 0\n", 0), ("state 0 answer 0 to 0 0 0 0\n", 0),
            ("state 0 answer 0 to -1\n", 0), ("state 0 answer 0 to +0\n", 0), ("state 0 answer 0 to \u0660\n", 0),
            ("state 0 answer 0 to 0\r\n", 0), ("state 0 answer 0 to 0\x00\n", 0), ("state 0 answer 0 to x\n", 0),
            ("state 0 answer 0 to 0,0\n", 0), ("state 0 answers 0 to 0\n", 0), ("state 0 answer 0 too 0\n", 0),
            ("state 0 answer  to 0\n", 0), ("state 0 to 0 answer 0\n", 0),
            (first, 0), (second, 0), (second + first, 0), (first + first, 1), (first + second + second, 2),
            (first + "\n", 1), (first + second + "\n", 2), ("\n" + first + second, 0),
            (first + "state 1 answer 1 to 1\n", 1), (first + "state 1 answer 1 to 1 0 0\n", 1),
            (first + "state 1 answer 1 to 1 2\n", 1), (first + "state 1 answer 7 to 1 0\n", 1),
        ):
            self.refused(text, line)
            self.assertEqual(bad_question_line(text), line)

    def test_a_last_line_without_its_newline(self):
        first, second = "state 0 answer 0 to 0 1\n", "state 1 answer 1 to 1 0\n"
        for text, line in (
            ("state 0 answer 0 to 0", 0), (first + second[:-1], 1), (first + second + " ", 2), ("x\ny\nz", 2),
            ("\n\n\nstate", 3), (first[:-1] + "\r", 0), (first + second + "state 2 answer 0 to 0 0", 2), ("x", 0),
        ):
            self.refused(text, line)
            self.assertEqual(bad_question_line(text), line)

    def test_six_and_seven_lines(self):
        text = write_question(chained(6))
        self.assertEqual(read_question(text), chained(6))
        self.refused(text + "state 6 answer 0 to 0\n", 6)
        self.refused(text + "state 6 answer 0 to 6\n", 6)
        self.refused(text + "x\n", 6)
        self.refused(text + "state 6 answer 0 to 0\n" * 3, 6)
        # A seventh line is none to which a next state may lead.
        self.refused(text.replace("to 3", "to 6") + "state 6 answer 0 to 0\n", 2)
        self.refused(text.replace("to 3", "to 6"), 2)
        lines = [f"state {number} answer 0 to 0\n" for number in range(12)]
        self.refused("".join(lines), 6)

    def test_next_states_are_lines_of_the_text(self):
        for states in range(1, 7):
            for there in range(10):
                lines = [f"state {number} answer 1 to {there}\n" for number in range(states)]
                if there < states:
                    self.assertEqual(read_question("".join(lines)), (((there,),) * states, (1,) * states))
                else:
                    self.refused("".join(lines), 0)

    def test_changed_texts(self):
        draw = random.Random(122)
        bad = 0
        for _ in range(4000):
            text = write_question(drawn_question(draw, draw.randrange(1, 7), draw.randrange(1, 4)))
            for _ in range(draw.randrange(1, 3)):
                text = changed(draw, text)
            line = bad_question_line(text)
            if line is None:
                self.assertEqual(write_question(read_question(text)), text)
            else:
                self.refused(text, line)
                bad += 1
        self.assertGreater(bad, 2000)

    def test_values_that_are_no_strings(self):
        for number, value in enumerate(NO_STRINGS + (b"state 0 answer 0 to 0\n",)):
            with self.subTest(number), self.assertRaises(BadLine) as caught:
                read_question(value)
            self.assertEqual(caught.exception.line, 0)

    def test_bad_questions(self):
        for value, part in question_values():
            with self.subTest(value=str(value)[:60]), self.assertRaises(BadQuestion) as caught:
                write_question(value)
            self.assertEqual(caught.exception.part, part)


class Readers(unittest.TestCase):
    def test_known(self):
        reader = ((((0, 0), (1, 1)), ((1, 1), (0, 0))), ((0, 1), (1, 0)))
        text = "state 0 opens 0/0 1/1 closes 0 1\nstate 1 opens 1/1 0/0 closes 1 0\n"
        self.assertEqual(write_reader(2, "named", reader), text)
        self.assertEqual(read_reader(2, "named", text), reader)
        self.assertEqual(write_reader(1, "blind", ((((0, 1),),), ((0,),))), "state 0 opens 0/1 closes 0\n")
        self.assertEqual(read_reader(1, "named", "state 0 opens 0/1 closes 0\n"), ((((0, 1),),), ((0,),)))
        self.assertEqual(
            write_reader(3, "blind", ((((0, 1), (0, 0), (0, 1)),), ((0,),))), "state 0 opens 0/1 0/0 0/1 closes 0\n"
        )

    def test_there_and_back(self):
        draw = random.Random(123)
        for manner in MANNERS:
            cases = [(names, reader) for names in (1, 2, 3) for reader in all_readers(1, names, manner)]
            cases += [(1, reader) for reader in all_readers(2, 1, manner)]
            for _ in range(150):
                names = draw.randrange(1, 4)
                cases.append((names, drawn_reader(draw, draw.randrange(1, 7), names, manner)))
            for names, reader in cases:
                text = write_reader(names, manner, reader)
                self.assertEqual(read_reader(names, manner, text), reader)
                self.assertIsNone(bad_reader_line(names, manner, text))
                self.assertEqual(text.count("\n"), len(reader[0]))

    def refused(self, names, manner, text, line):
        """See that a text is refused for a line."""
        with self.subTest(names=names, manner=manner, text=text), self.assertRaises(BadLine) as caught:
            read_reader(names, manner, text)
        self.assertEqual(caught.exception.line, line)

    def test_bad_lines(self):
        first, second = "state 0 opens 0/0 1/1 closes 0 1\n", "state 1 opens 1/1 0/0 closes 1 0\n"
        for text, line in (
            ("", 0), ("\n", 0), (first, 0), (second, 0), (second + first, 0), (first + first, 1),
            (first + "\n", 1), (first + second + second, 2), (first + second[:-1], 1), (first + second + "x", 2),
            (first + "state 1 opens 1/1 closes 1 0\n", 1), (first + "state 1 opens 1/1 0/0 closes 1\n", 1),
            (first + "state 1 opens 1/1 0/0 0/0 closes 1 0\n", 1), (first + "state 1 opens 1/1 0/0 closes 1 0 0\n", 1),
            (first + "state 1 opens 1/1 0/2 closes 1 0\n", 1), (first + "state 1 opens 2/1 0/0 closes 1 0\n", 1),
            (first + "state 1 opens 1/1 0/0 closes 1 2\n", 1), (first + "state 1 opens 1/1 0 closes 1 0\n", 1),
            (first + "state 1 opens 1/1/0 0/0 closes 1 0\n", 1), (first + "state 1 opens 1/ 0/0 closes 1 0\n", 1),
            (first + "state 1 opens /1 0/0 closes 1 0\n", 1), (first + "state 1 opens 1 / 1 0/0 closes 1 0\n", 1),
            (first + "state 1 opens 1/1  0/0 closes 1 0\n", 1), (first + "state 1 opens 1/1 0/0 closes 1 0 \n", 1),
            (first + "state 1 opens 1/1 0/0 closes 01 0\n", 1), (first + "state 1 opens 1/1 0/00 closes 1 0\n", 1),
            (first + "state 1 opens 1/1 0/0 close 1 0\n", 1), (first + "state 1 closes 1 0 opens 1/1 0/0\n", 1),
            (first + "state 1 opens 1/1 0/0 1 closes 0\n", 1), (first + "state 1 opens 1/1 0/0 closes 1/1 0\n", 1),
        ):
            self.refused(2, "named", text, line)
            self.assertEqual(bad_reader_line(2, "named", text), line)

    def test_other_names_and_manners(self):
        for names, manner, other, other_manner in (
            (2, "named", 2, "blind"), (2, "blind", 2, "named"), (2, "named", 1, "named"), (2, "named", 3, "named"),
            (1, "blind", 2, "blind"), (3, "blind", 2, "blind"),
        ):
            reader = drawn_reader(random.Random(124), 3, names, manner)
            self.refused(other, other_manner, write_reader(names, manner, reader), 0)
        self.assertEqual(read_reader(1, "blind", "state 0 opens 0/1 closes 0\n"), ((((0, 1),),), ((0,),)))

    def test_six_and_seven_lines(self):
        lines = [f"state {number} opens {number}/1 closes 5\n" for number in range(8)]
        self.assertEqual(
            read_reader(1, "named", "".join(lines[:6])),
            (tuple(((number, 1),) for number in range(6)), ((5,),) * 6),
        )
        self.refused(1, "named", "".join(lines[:7]), 6)
        self.refused(1, "blind", "".join(lines), 6)
        self.refused(1, "blind", "".join(lines[:5]), 0)
        self.refused(1, "named", lines[0] + lines[1].replace("5", "6") + "".join(lines[2:7]), 1)
        self.refused(1, "named", lines[0] + lines[1].replace("1/1", "6/1") + "".join(lines[2:7]), 1)

    def test_changed_texts(self):
        draw = random.Random(125)
        bad = 0
        for _ in range(4000):
            names, manner = draw.randrange(1, 4), draw.choice(MANNERS)
            text = write_reader(names, manner, drawn_reader(draw, draw.randrange(1, 7), names, manner))
            for _ in range(draw.randrange(1, 3)):
                text = changed(draw, text)
            line = bad_reader_line(names, manner, text)
            if line is None:
                self.assertEqual(write_reader(names, manner, read_reader(names, manner, text)), text)
            else:
                self.refused(names, manner, text, line)
                bad += 1
        self.assertGreater(bad, 2000)

    def test_values_that_are_no_strings(self):
        for manner in MANNERS:
            for number, value in enumerate(NO_STRINGS):
                with self.subTest(number), self.assertRaises(BadLine) as caught:
                    read_reader(1, manner, value)
                self.assertEqual(caught.exception.line, 0)

    def test_bad_readers(self):
        for manner, ways in (("named", 2), ("blind", 1)):
            for value, part in reader_values(ways):
                with self.subTest(value=str(value)[:60]), self.assertRaises(BadReader) as caught:
                    write_reader(2, manner, value)
                self.assertEqual(caught.exception.part, part)
        for names in (1, 3):
            with self.assertRaises(BadReader) as caught:
                write_reader(names, "named", PLAIN)
            self.assertEqual(caught.exception.part, "opens")


class WrongValues(unittest.TestCase):
    def test_bad_numbers(self):
        for value in NO_NAMES:
            with self.subTest(value=value):
                with self.assertRaises(BadNumber):
                    read_row(value, "a")
                for manner in MANNERS:
                    with self.assertRaises(BadNumber):
                        write_reader(value, manner, PLAIN)
                    with self.assertRaises(BadNumber):
                        read_reader(value, manner, "state 0 opens 0/1 closes 0\n")

    def test_bad_manners(self):
        for value in NO_TUPLES + ((), ("named",), "Named", "blind "):
            if value != "named":
                with self.subTest(value=value):
                    with self.assertRaises(BadManner):
                        write_reader(2, value, PLAIN)
                    with self.assertRaises(BadManner):
                        read_reader(1, value, "state 0 opens 0/1 closes 0\n")

    def test_the_leftmost_error_comes_first(self):
        with self.assertRaises(BadNumber):
            read_row(0, None)
        with self.assertRaises(BadNumber):
            write_reader(4, "open", None)
        with self.assertRaises(BadNumber):
            read_reader(True, None, "")
        with self.assertRaises(BadManner):
            write_reader(3, "open", None)
        with self.assertRaises(BadManner):
            read_reader(1, None, "")
