"""[15] and [16], and what [2] and [3] say of what is put behind a door."""

import copy
import itertools
import random
import unittest

from tests.samples import (
    AGAINST, BARE, BOOKS, BRACKETS, ESCAPED, ESCAPES, FORKED, LENGTHS, LINES, SIGNS, WORDS, CheckedCase, TimedCase,
    doors_of, long_text, marks_in, random_book, read_by_rules, short_texts, tails_of,
)
from tonguenest.books import is_book
from tonguenest.errors import NoDoor, NoWay
from tonguenest.putting import fewest_escapes, put_in

FAR = 10 ** 39

# The close's parts at the text's end make a close sooner.
TWICE = (("", (("(", 1, "aa"), ("[", 1, "abab"))), ("^", ()))
# Opens of tongue 1 that begin ahead of the close `b` and end over it, or behind it.
OVER = (("", (("(", 1, "b"), ("[", 2, "b"))), ("^", (("abc", 0, "z"), ("xb", 0, "z"), ("uvbw", 0, "z"))), ("", (
    ("abc", 0, "z"), ("xb", 0, "z"), ("uvbw", 0, "z"))))
# Opens that overlap one another and themselves.
LAPS = (("", (("(", 1, "!"),)), ("^", (("aba", 0, "z"), ("bcb", 0, "z"), ("dddd", 0, "z"))))
# The marks are line ends.
ENDS = (("", (("#", 1, "\n"), ("|", 1, "\n\n"))), ("^", ((">\n", 0, "<"),)))

MORE_BOOKS = (TWICE, OVER, LAPS, ENDS)
OWN_SIGNS = (
    (TWICE, "ab^"), (OVER, "abc^"), (OVER, "xbuv"), (OVER, "uvbw"), (LAPS, "abc!"), (LAPS, "ad^!"), (ENDS, "\n>^ "),
)
MORE_SIGNS = SIGNS + OWN_SIGNS


def room_of(book, tongue, number):
    opening, inner, close = book[tongue][1][number]
    return inner, close


def read_behind(book, room, text):
    """The steps of the text, read with the room's door innermost, up to the first one that is of another kind."""
    told = []
    for step in read_by_rules(book, text, ((-1,) + room,))[0]:
        told.append(step[:3])
        if step[2] not in ("sign", "escape"):
            break
    return told


def tails_behind(book):
    """What could stand behind: nothing, what goes on with a mark, marks, escapes and other signs."""
    escapes = [escape for escape, doors in book if escape]
    return sorted({"", "a", " ", "\n"}.union(tails_of(book), marks_in(book), escapes))


def stands_there(book, room, text, written, tails):
    """Whether what is written is read behind the door as the text, till the close, with any of the tails."""
    inner, close = room
    for tail in tails:
        *told, last = read_behind(book, room, written + close + tail)
        if last != (len(written), len(close), "close"):
            return False
        if "".join(written[place + many - 1] for place, many, word in told) != text:
            return False
    return True


def written_ways(escape, text, many):
    """All ways of writing the text with so many escapes."""
    for places in itertools.combinations(range(len(text)), many):
        yield "".join(escape + sign if place in places else sign for place, sign in enumerate(text))


def fewest_by_trying(book, room, text, tails):
    """The least count of escapes, or None, by going through all ways of writing the text."""
    escape = book[room[0]][0]
    for many in range(len(text) + 1 if escape else 1):
        for written in written_ways(escape, text, many):
            if stands_there(book, room, text, written, tails):
                return many
    return None


class PutCheck(CheckedCase):
    def check_put(self, book, tongue, number, text, many):
        """Checks that the text is put there with so many escapes, or, where many is None, that it is refused."""
        if many is None:
            self.refused(NoWay, put_in, book, tongue, number, text)
            self.refused(NoWay, fewest_escapes, book, tongue, number, text)
            return None
        written = put_in(book, tongue, number, text)
        self.assertIs(type(written), str)
        room = room_of(book, tongue, number)
        self.assertTrue(
            stands_there(book, room, text, written, tails_behind(book)), (book, tongue, number, text, written))
        self.assertEqual(len(written) - len(text), many, (book, tongue, number, text, written))
        told = fewest_escapes(book, tongue, number, text)
        self.assertIs(type(told), int)
        self.assertEqual(told, many, (book, tongue, number, text))
        return written

    def check_by_trying(self, book, text):
        tails = tails_behind(book)
        # Of several doors with the same inner tongue and close only the last one is tried.
        doors = {room_of(book, tongue, number): (tongue, number) for tongue, number in doors_of(book)}
        for room, (tongue, number) in doors.items():
            self.check_put(book, tongue, number, text, fewest_by_trying(book, room, text, tails))


class BooksTest(unittest.TestCase):
    def test_the_books_of_these_tests_are_books(self):
        for book in MORE_BOOKS:
            self.assertIs(is_book(book), True, book)


class PutInTest(PutCheck):
    def test_a_text_of_no_signs(self):
        for book in BOOKS + MORE_BOOKS:
            for tongue, number in doors_of(book):
                self.assertEqual(put_in(book, tongue, number, ""), "")
                self.assertEqual(fewest_escapes(book, tongue, number, ""), 0)

    def test_what_leads_nowhere_stands_as_it_is(self):
        for text in ("a", "say it", "a\nb", "$", "{", "}", "*)", "(*", "$ {", "^", "~"):
            self.check_put(WORDS, 0, 0, text, 0)
            self.assertEqual(put_in(WORDS, 0, 0, text), text)

    def test_the_close(self):
        self.assertEqual(put_in(WORDS, 0, 0, '"'), '\\"')
        self.assertEqual(put_in(WORDS, 0, 0, 'a"b"'), 'a\\"b\\"')
        self.check_put(WORDS, 0, 0, '""""', 4)
        self.assertEqual(put_in(BRACKETS, 0, 0, ">"), "\\>")
        self.check_put(TWICE, 0, 1, "abab", 1)

    def test_opens_of_the_inner_tongue(self):
        self.assertIn(put_in(WORDS, 0, 0, "${"), ("\\${", "$\\{"))
        self.check_put(WORDS, 0, 0, "${", 1)
        self.check_put(WORDS, 0, 0, "a${b}c", 1)
        self.check_put(WORDS, 0, 0, "${${", 2)
        self.assertEqual(put_in(BRACKETS, 0, 0, "<"), "\\<")

    def test_opens_of_other_tongues_are_plain(self):
        self.assertEqual(put_in(WORDS, 0, 0, "(* {"), "(* {")
        self.assertEqual(put_in(LINES, 0, 0, "<!-- --"), "<!-- --")

    def test_closes_of_other_doors_are_plain(self):
        self.assertEqual(put_in(WORDS, 0, 0, "*) }"), "*) }")
        self.check_put(TWICE, 0, 0, "abab", 0)
        self.check_put(TWICE, 0, 1, "aa", 0)
        # Two doors to the same tongue, with closes of their own.
        self.check_put(ENDS, 0, 0, "\n", 1)
        self.check_put(ENDS, 0, 1, "a\n b", 0)

    def test_the_escape_itself(self):
        self.assertEqual(put_in(WORDS, 0, 0, "\\"), "\\\\")
        self.assertEqual(put_in(WORDS, 0, 0, "\\\\"), "\\\\\\\\")
        self.assertEqual(put_in(WORDS, 0, 0, '\\"'), '\\\\\\"')
        self.check_put(WORDS, 0, 0, "$\\{", 1)

    def test_escapes_of_other_tongues(self):
        self.assertEqual(put_in(ESCAPES, 0, 0, "0"), "0")
        self.assertEqual(put_in(ESCAPES, 0, 0, "1"), "11")
        self.assertEqual(put_in(ESCAPES, 1, 0, "01"), "01")
        self.assertEqual(put_in(ESCAPES, 2, 0, "01"), "001")
        self.assertEqual(put_in(LINES, 0, 0, "\\"), "\\")

    def test_blanks_and_line_ends(self):
        self.assertEqual(put_in(WORDS, 0, 0, " \n "), " \n ")
        self.assertEqual(put_in(LINES, 0, 0, " a\nb "), " a^\nb ")
        self.check_put(LINES, 0, 0, "\n\n", 2)
        self.check_put(ENDS, 0, 1, "\n\n", 1)
        self.check_put(ENDS, 0, 0, "a >\n", 1)
        self.check_put(ENDS, 0, 1, "a > \n", 1)
        self.assertEqual(put_in(ENDS, 0, 0, " >"), " ^>")

    def test_parts_of_the_close_at_the_end(self):
        self.assertEqual(put_in(TWICE, 0, 0, "a"), "^a")
        self.assertEqual(put_in(TWICE, 0, 0, "ba"), "b^a")
        self.assertEqual(put_in(TWICE, 0, 0, "ab"), "ab")
        self.check_put(TWICE, 0, 1, "ab", 1)
        self.check_put(TWICE, 0, 1, "aba", 0)
        self.check_put(TWICE, 0, 1, "bab", 1)
        self.check_put(ENDS, 0, 1, "a\n", 1)

    def test_an_escape_that_breaks_two_marks(self):
        # `aaaa` is a close at each of both places of the text, both of which have its second sign.
        self.assertEqual(put_in(TWICE, 0, 0, "aa"), "a^a")
        self.check_put(TWICE, 0, 0, "aaa", 2)
        self.check_put(TWICE, 0, 0, "aaaa", 2)
        self.check_put(TWICE, 0, 0, "a" * 9, 5)

    def test_marks_that_end_over_the_close(self):
        self.assertEqual(put_in(OVER, 0, 0, "x"), "^x")
        self.assertEqual(put_in(OVER, 0, 0, "ax"), "a^x")
        self.assertEqual(put_in(OVER, 0, 0, "xa"), "x^a")

    def test_marks_that_end_behind_the_close(self):
        self.assertEqual(put_in(OVER, 0, 0, "a"), "^a")
        self.check_put(OVER, 0, 0, "uv", 1)
        self.assertEqual(put_in(OVER, 0, 0, "v"), "v")
        self.assertEqual(put_in(OVER, 0, 0, "u"), "u")
        self.check_put(OVER, 0, 0, "auv", 1)

    def test_marks_that_hold_the_close(self):
        self.check_put(OVER, 0, 0, "abc", 1)
        self.assertEqual(put_in(OVER, 0, 0, "abc"), "a^bc")
        self.assertEqual(put_in(OVER, 0, 0, "xb"), "x^b")
        self.check_put(OVER, 0, 0, "uvbw", 1)
        self.check_put(OVER, 0, 0, "abcxbuvbw", 3)

    def test_marks_with_which_the_close_begins(self):
        # `>` is an open of the tongue that `>>` shuts.
        book = (("", (("<", 1, ">>"),)), ("^", ((">", 0, "x"),)))
        self.assertIs(is_book(book), True)
        self.check_put(book, 0, 0, ">", 1)
        self.check_put(book, 0, 0, ">>", 2)
        self.check_put(book, 0, 0, "->", 1)

    def test_marks_that_overlap(self):
        self.assertEqual(put_in(LAPS, 0, 0, "ababa"), "ab^aba")
        self.check_put(LAPS, 0, 0, "aba", 1)
        self.check_put(LAPS, 0, 0, "abcba", 1)
        self.check_put(LAPS, 0, 0, "abacbcb", 2)
        self.check_put(LAPS, 0, 0, "abababa", 2)
        self.check_put(LAPS, 0, 0, "ababababab", 2)
        self.assertEqual(put_in(LAPS, 0, 0, "ddddddd"), "ddd^dddd")
        self.check_put(LAPS, 0, 0, "dddddddd", 2)

    def test_an_escape_breaks_a_mark_ahead_of_any_of_its_signs(self):
        self.assertEqual(put_in(LAPS, 0, 0, "abaaba!"), put_in(LAPS, 0, 0, "abaaba") + "^!")
        self.check_put(LAPS, 0, 0, "ab^a", 1)
        self.check_put(LAPS, 0, 0, "abcbcba", 1)

    def test_all_short_texts_with_as_few_escapes_as_can_be(self):
        for book, signs in SIGNS:
            for text in short_texts(signs, 3):
                self.check_by_trying(book, text)
        for book, signs in OWN_SIGNS:
            for text in short_texts(signs, 4):
                self.check_by_trying(book, text)

    def test_many_books_with_as_few_escapes_as_can_be(self):
        chance = random.Random(15)
        for number in range(200):
            book = random_book(chance, "ab<")
            for many in range(8):
                text = "".join(chance.choice("aabb<^@") for sign in range(chance.randint(1, 6)))
                self.check_by_trying(book, text)


class NoWayTest(PutCheck):
    def test_what_stands_there_as_it_is(self):
        for text in ("", "a", "*", ")", ") *", "( *", '"\\^', "a b\n"):
            self.assertEqual(put_in(WORDS, 0, 1, text), text)
            self.assertEqual(fewest_escapes(WORDS, 0, 1, text), 0)

    def test_the_close(self):
        self.check_put(WORDS, 0, 1, "*)", None)
        self.check_put(WORDS, 0, 1, "a*)b", None)
        self.check_put(WORDS, 1, 0, "}", None)
        self.check_put(LENGTHS, 0, 0, "z", None)

    def test_opens(self):
        self.check_put(WORDS, 0, 1, "(*", None)
        for text in ('"', "{", "(*"):
            self.check_put(WORDS, 1, 0, text, None)
        self.check_put(WORDS, 1, 0, "(", 0)

    def test_marks_of_the_end_and_the_close(self):
        # `(` and the close `*)` begin as the open `(*` does.
        self.check_put(WORDS, 0, 1, "(", None)
        self.check_put(WORDS, 0, 1, "((", None)
        self.check_put(WORDS, 0, 1, "( ", 0)
        for text in ("x", "a", "uv", "ba", "b", "abc"):
            self.check_put(OVER, 0, 1, text, None)
        for text in ("u", "v", "xc", "ac", "c"):
            self.check_put(OVER, 0, 1, text, 0)

    def test_one_that_could_go_on_behind_the_close(self):
        self.check_put(AGAINST, 0, 0, "<", 0)
        self.check_put(AGAINST, 0, 0, ">", None)
        self.check_put(AGAINST, 0, 0, "-", None)
        self.check_put(FORKED, 0, 1, ">", None)

    def test_escapes_of_other_tongues(self):
        self.check_put(ESCAPES, 1, 0, "0101", 0)
        self.check_put(WORDS, 0, 1, "\\", 0)


class NoDoorTest(CheckedCase):
    def refused_both(self, kind, book, tongue, number, text):
        self.refused(kind, put_in, book, tongue, number, text)
        self.refused(kind, fewest_escapes, book, tongue, number, text)

    def test_tongues_that_there_are_not(self):
        for book in BOOKS:
            for tongue in (-1, -len(book), -len(book) - 1, len(book), 6, 7, FAR, -FAR, 10 ** 40 - 1):
                if tongue < 0 or tongue >= len(book):
                    self.refused_both(NoDoor, book, tongue, 0, "a")

    def test_numbers_that_there_are_not(self):
        for book in BOOKS + MORE_BOOKS:
            for tongue, (escape, doors) in enumerate(book):
                for number in (-1, -len(doors), len(doors), len(doors) + 1, FAR, -FAR, 10 ** 40 - 1):
                    if number < 0 or number >= len(doors):
                        self.refused_both(NoDoor, book, tongue, number, "a")

    def test_both_at_once(self):
        self.refused_both(NoDoor, WORDS, -1, -1, "a")
        self.refused_both(NoDoor, WORDS, FAR, -FAR, "a")

    def test_a_tongue_without_doors(self):
        self.refused_both(NoDoor, BARE, 0, 0, "")
        self.refused_both(NoDoor, ESCAPED, 0, 0, "a")
        self.refused_both(NoDoor, LENGTHS, 1, 0, "a")

    def test_ahead_of_no_way(self):
        self.refused_both(NoWay, WORDS, 2, 0, "*)")
        for tongue, number in ((2, 1), (2, -1), (3, 0), (-1, 0)):
            self.refused_both(NoDoor, WORDS, tongue, number, "*)")

    def test_the_last_door_of_each_tongue_is_one(self):
        self.assertEqual(put_in(WORDS, 0, 2, "a"), "a")
        self.assertEqual(put_in(WORDS, 2, 0, "a"), "a")
        self.refused_both(NoDoor, WORDS, 0, 3, "a")


class LongPutTest(TimedCase):
    def check_long(self, book, tongue, number, text, many):
        written = put_in(book, tongue, number, text)
        room = room_of(book, tongue, number)
        self.assertTrue(stands_there(book, room, text, written, ["", "a"]), (book, tongue, number))
        self.assertEqual(len(written) - len(text), many, (book, tongue, number))
        self.assertEqual(fewest_escapes(book, tongue, number, text), many)

    def test_2000_signs(self):
        self.check_long(WORDS, 0, 0, "a" * 2000, 0)
        self.check_long(WORDS, 0, 0, '"' * 2000, 2000)
        self.check_long(WORDS, 0, 0, "\\" * 2000, 2000)
        self.check_long(WORDS, 0, 0, "${" * 1000, 1000)
        self.check_long(LAPS, 0, 0, "d" * 2000, 500)
        self.check_long(LAPS, 0, 0, "ab" * 1000, 500)
        self.check_long(TWICE, 0, 0, "a" * 2000, 1000)

    def test_2000_signs_without_a_way(self):
        for text in ("*)" + "a" * 1998, "a" * 1998 + "*)", "a" * 1999 + "("):
            self.refused(NoWay, put_in, WORDS, 0, 1, text)
            self.refused(NoWay, fewest_escapes, WORDS, 0, 1, text)
        self.assertEqual(put_in(WORDS, 0, 1, "*" * 2000), "*" * 2000)

    def test_as_few_as_when_gone_through_from_the_front(self):
        for book, signs in MORE_SIGNS:
            text = long_text(signs, 300)
            for tongue, number in doors_of(book):
                inner, close = room_of(book, tongue, number)
                if book[inner][0]:
                    many = self.count_from_the_front(book, inner, close, text)
                    self.check_long(book, tongue, number, text, many)

    def count_from_the_front(self, book, inner, close, text):
        """Each mark that is not broken yet is broken as far behind as can be."""
        marks = [opening for opening, within, end in book[inner][1]] + [close]
        ends = sorted(
            (min(place + len(mark), len(text)), place) for place in range(len(text)) for mark in marks
            if (text + close)[place:place + 4].startswith(mark) or mark.startswith((text + close)[place:])
        )
        many, last = text.count(book[inner][0]), -1
        for end, place in ends:
            if place > last:
                many, last = many + 1, end - 1
        return many


class PromisesTest(CheckedCase):
    def test_asked_again_the_same_is_told(self):
        for book, signs in MORE_SIGNS:
            for text in short_texts(signs, 2):
                for tongue, number in doors_of(book):
                    self.assertEqual(self.told(book, tongue, number, text), self.told(book, tongue, number, text))

    def told(self, book, tongue, number, text):
        try:
            return put_in(book, tongue, number, text), fewest_escapes(book, tongue, number, text)
        except NoWay:
            return None

    def test_what_is_handed_in_is_unchanged(self):
        for book, signs in MORE_SIGNS:
            before = copy.deepcopy(book)
            for tongue, number in doors_of(book):
                self.told(book, tongue, number, long_text(signs, 60))
            self.assertEqual(book, before)


if __name__ == "__main__":
    unittest.main()
