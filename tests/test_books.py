"""[4], and what [2] says "of anything": what is a book."""

import copy
import unittest

from tests.samples import LISTS, NO_TEXTS, NUMBERS, TRUTHS, TUPLES, WORDS
from tonguenest.books import is_book

SIGNS = [chr(code) for code in range(33, 127) if chr(code) != "%"]

TEXTS = ["", " ", "a", "ab", "abcde", "\n", "%", "a" * 2000, "".join(SIGNS), "0", "()"]
THINGS = NO_TEXTS + TEXTS


def parts(thing, path=()):
    """The paths to all parts of a thing made of tuples, itself the first."""
    found = [path]
    if isinstance(thing, tuple):
        for number, part in enumerate(thing):
            found.extend(parts(part, path + (number,)))
    return found


def part_at(thing, path):
    for number in path:
        thing = thing[number]
    return thing


def replaced(thing, path, other):
    """The thing with another one in the place of the part at the path."""
    if not path:
        return other
    at = path[0]
    return thing[:at] + (replaced(thing[at], path[1:], other),) + thing[at + 1:]


def of_one_door(opening, inner, close, escape=""):
    return ((escape, ((opening, inner, close),)), ("", ()))


class BookTest(unittest.TestCase):
    def book(self, thing):
        self.assertIs(is_book(thing), True, repr(thing)[:200])

    def no_book(self, thing):
        self.assertIs(is_book(thing), False, repr(thing)[:200])


class CountsTest(BookTest):
    def test_one_to_six_tongues(self):
        for many in range(1, 7):
            self.book((("", ()),) * many)

    def test_no_tongue_and_seven(self):
        self.no_book(())
        self.no_book((("", ()),) * 7)

    def test_no_door_to_six(self):
        for many in range(7):
            doors = tuple((sign, 1, "x") for sign in "abcdef"[:many])
            self.book((("", doors), ("", ())))
            self.book((("", ()), ("\\", ()), ("", doors)))

    def test_seven_doors(self):
        doors = tuple((sign, 1, "x") for sign in "abcdefg")
        self.no_book((("", doors), ("", ())))
        self.no_book((("", ()), ("", doors)))

    def test_six_tongues_of_six_doors(self):
        doors = tuple((sign, number, "x") for number, sign in enumerate("abcdef"))
        self.book(((("\\", doors),) * 6))

    def test_a_tongue_has_two_parts(self):
        self.no_book(((),))
        self.no_book((("",),))
        self.no_book((("", (), ()),))
        self.no_book((((), ""),))

    def test_a_door_has_three_parts(self):
        self.no_book((("", ((),)), ("", ())))
        self.no_book((("", (("<", 1),)), ("", ())))
        self.no_book((("", (("<", 1, ">", ">"),)), ("", ())))
        self.no_book((("", ("<", 1, ">")), ("", ())))

    def test_each_tongue_and_door_is_looked_at(self):
        doors = (("a", 0, "x"), ("b", 0, "x"), ("c", 0, "x"))
        book = (("", doors), ("", doors), ("", doors))
        self.book(book)
        for tongue in range(3):
            self.no_book(replaced(book, (tongue,), None))
            for door in range(3):
                self.no_book(replaced(book, (tongue, 1, door), None))


class MarksTest(BookTest):
    def test_marks_of_one_to_four_signs(self):
        for many in range(1, 5):
            self.book(of_one_door("a" * many, 1, "x"))
            self.book(of_one_door("a", 1, "x" * many))

    def test_marks_of_none_and_of_five(self):
        for mark in ("", "abcde"):
            self.no_book(of_one_door(mark, 1, "x"))
            self.no_book(of_one_door("x", 1, mark))

    def test_each_sign_stands_in_marks(self):
        for sign in SIGNS:
            self.book(of_one_door(sign, 1, "ab" + sign))
            self.book(of_one_door("ab" + sign, 1, sign))

    def test_marks_with_a_line_end(self):
        for mark in ("\n", "a\n", "\na", "\n\n\n\n"):
            self.book(of_one_door(mark, 1, "x"))
            self.book(of_one_door("x", 1, mark))

    def test_marks_with_a_blank_or_a_percent_sign(self):
        for sign in (" ", "%"):
            for mark in (sign, "a" + sign, sign + "a", "aa" + sign + "a"):
                self.no_book(of_one_door(mark, 1, "x"))
                self.no_book(of_one_door("x", 1, mark))

    def test_marks_with_what_is_no_sign(self):
        for sign in ("\t", "\r", "\x00", "\x7f", "\xe9", "\u2028"):
            self.no_book(of_one_door("a" + sign, 1, "x"))
            self.no_book(of_one_door("x", 1, sign))


class EscapeTest(BookTest):
    def test_an_escape_of_none_and_of_one_sign(self):
        self.book((("", ()),))
        for sign in SIGNS:
            self.book(((sign, ()),))

    def test_an_escape_of_two_signs(self):
        for escape in ("ab", "\\\\", "a" * 2000):
            self.no_book(((escape, ()),))

    def test_an_escape_of_another_sign(self):
        for escape in (" ", "%", "\n", "\t", "\x7f", "\xe9"):
            self.no_book(((escape, ()),))

    def test_tongues_with_the_same_escape(self):
        self.book((("\\", ()), ("\\", ()), ("^", ())))

    def test_an_escape_of_any_tongue_in_a_mark_of_any_tongue(self):
        book = (("", (("ab", 1, "cd"),)), ("", (("ef", 2, "gh"),)), ("", ()))
        self.book(book)
        for tongue in range(3):
            self.book(replaced(book, (tongue, 0), "i"))
            for sign in "abcdefgh":
                self.no_book(replaced(book, (tongue, 0), sign))

    def test_an_escape_at_each_place_of_a_mark(self):
        for at in range(4):
            mark = "aaaa"[:at] + "\\" + "aaaa"[at + 1:]
            self.no_book(of_one_door(mark, 1, "x", escape="\\"))
            self.no_book(of_one_door("x", 1, mark, escape="\\"))


class InnerTest(BookTest):
    def test_an_inner_that_is_there(self):
        for many in range(1, 7):
            for inner in range(many):
                self.book((("", (("<", inner, ">"),)),) + (("", ()),) * (many - 1))

    def test_an_inner_that_is_not_there(self):
        for many in range(1, 7):
            for inner in (-1, -many, many, many + 1, 10 ** 39, -(10 ** 39)):
                self.no_book((("", (("<", inner, ">"),)),) + (("", ()),) * (many - 1))

    def test_an_inner_that_is_a_truth(self):
        for inner in (True, False):
            self.no_book(of_one_door("<", inner, ">"))

    def test_an_inner_of_another_kind(self):
        for inner in ("0", "", None, (), (0,), [], [0]):
            self.no_book(of_one_door("<", inner, ">"))


class OpensTest(BookTest):
    def test_the_same_open_twice_in_a_tongue(self):
        self.no_book((("", (("<", 1, ">"), ("<", 1, ">"))), ("", ())))
        self.no_book((("", (("<", 1, ">"), ("a", 1, ">"), ("<", 2, "x"))), ("", ()), ("", ())))
        self.no_book((("", ()), ("", ()), ("", (("<", 1, ">"), ("<", 1, "x")))))

    def test_the_same_open_in_two_tongues(self):
        self.book((("", (("<", 1, ">"),)), ("", (("<", 1, ">"),))))

    def test_opens_that_begin_with_one_another(self):
        self.book((("", (("<", 1, ">"), ("<<", 1, ">"), ("<<<", 1, ">"), ("<<<<", 1, ">"))), ("", ())))

    def test_the_same_close_twice(self):
        self.book((("", (("<", 1, ">"), ("(", 1, ">"))), ("", ())))

    def test_an_open_that_is_its_own_close(self):
        self.book((("", (('"', 1, '"'),)), ("", ())))
        self.no_book((("", (('"', 0, '"'),)),))

    def test_an_open_that_is_a_close_of_a_door_to_its_tongue(self):
        self.no_book((("", (("<", 1, ">"),)), ("", ((">", 0, "x"),))))
        self.no_book((("", ()), ("", ((">", 0, "x"),)), ("", (("<", 1, ">"),))))

    def test_an_open_that_begins_with_a_close_of_a_door_to_its_tongue(self):
        for opening in (">a", ">>", ">abc"):
            self.no_book((("", (("<", 1, ">"),)), ("", ((opening, 0, "x"),))))
            self.no_book((("", (("<", 1, ">"),)), ("", (("a", 0, "x"), (opening, 2, "y"))), ("", ())))
            self.no_book((("", ()), ("", (("<", 2, ">"),)), ("", ((opening, 0, "x"),))))

    def test_an_open_of_tongue_0_and_a_door_that_leads_back_to_it(self):
        self.no_book((("", ((">>", 1, "x"),)), ("", (("<", 0, ">"),))))
        self.no_book((("", ((">", 1, "x"), ("<", 0, ">"))), ("", ())))

    def test_an_open_that_begins_with_a_close_of_a_door_to_another_tongue(self):
        self.book((("", (("<", 1, ">"),)), ("", ()), ("", ((">", 0, "x"), (">>", 0, "x")))))
        self.book((("", (("<", 1, ">"), (">", 2, "x"))), ("", ()), ("", ())))

    def test_an_open_with_which_a_close_begins(self):
        self.book((("", (("<", 1, ">>"),)), ("", ((">", 1, "x"),))))

    def test_an_open_that_has_a_close_further_on(self):
        self.book((("", (("<", 1, ">"),)), ("", (("a>", 1, "x"),))))


class AnythingTest(BookTest):
    def test_no_thing_is_a_book_by_its_kind_alone(self):
        for thing in THINGS:
            self.no_book(thing)
            self.no_book((thing,))

    def test_of_anything_in_each_part_a_truth_is_told(self):
        for path in parts(WORDS):
            for thing in THINGS:
                told = is_book(replaced(WORDS, path, thing))
                self.assertIn(told, (True, False))
                self.assertIsInstance(told, bool)

    def test_a_thing_of_another_kind_in_each_part(self):
        kinds = ((int, NUMBERS), (str, TEXTS), (tuple, TUPLES), (None, LISTS + TRUTHS))
        for path in parts(WORDS):
            right = part_at(WORDS, path)
            for kind, things in kinds:
                if kind is None or not isinstance(right, kind):
                    for thing in things:
                        self.no_book(replaced(WORDS, path, thing))

    def test_lists_in_the_place_of_tuples(self):
        self.book(WORDS)
        for path in parts(WORDS):
            part = part_at(WORDS, path)
            if isinstance(part, tuple):
                self.no_book(replaced(WORDS, path, list(part)))

    def test_texts_in_the_place_of_tuples(self):
        self.no_book("a")
        self.no_book(("ab",))
        self.no_book((("a", "b"),))
        self.no_book((("", ("<0>",)),))

    def test_a_book_within_a_book_is_none(self):
        self.no_book((WORDS,))
        self.no_book(((WORDS, WORDS),))
        self.no_book((("", WORDS),))

    def test_what_is_handed_in_is_unchanged_and_told_the_same_again(self):
        for path in parts(WORDS):
            for thing in THINGS:
                whole = replaced(WORDS, path, thing)
                before = copy.deepcopy(whole)
                self.assertIs(is_book(whole), is_book(whole))
                self.assertEqual(repr(whole), repr(before))


if __name__ == "__main__":
    unittest.main()
