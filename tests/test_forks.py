"""[14], and what [2] and [3] say of forks and free readings."""

import copy
import functools
import random
import unittest

from tests.samples import (
    AGAINST, BARE, BOOKS, BRACKETS, ESCAPED, ESCAPES, FORKED, LENGTHS, LINES, SIGNS, WORDS, TimedCase, all_short_texts,
    long_text, short_texts, told_by_rules,
)
from tonguenest.books import is_book
from tonguenest.forks import forks, free_readings

# Opens that begin with one another, back to their own tongue, all with the same close.
ROWS = (("", (("a", 0, "b"), ("aa", 0, "b"), ("aaa", 0, "b"), ("aaaa", 0, "b"))),)
# The same, each with a close of its own.
CLOSES = (("", (("a", 0, "b"), ("aa", 0, "bb"), ("aaa", 0, "bbb"), ("aaaa", 0, "bbbb"))),)
# Of the two opens the longer one leads to where `>` shuts nothing.
TRAPS = (("", (("<", 0, ">"), ("<<", 1, "!"))), ("", (("<", 0, ">"), ("<<", 1, "!"))))
# A close, and opens that it begins with, which lead to where nothing leads out.
SHUTS = (("", (("<", 1, ">>>"),)), ("", ((">", 2, "!"), (">>", 2, "!"))), ("", ()))

MORE_SIGNS = SIGNS + ((ROWS, "ab"), (CLOSES, "ab"), (TRAPS, "<>!"), (SHUTS, "<>!"))


def marks_by_rules(book, text, place, doors):
    """What fits at a place where these doors, (inner, close), are open: each mark with the doors behind it."""
    tongue = doors[-1][0] if doors else 0
    marks = {opening: doors + ((inner, close),) for opening, inner, close in book[tongue][1]}
    if doors:
        marks[doors[-1][1]] = doors[:-1]
    return {mark: behind for mark, behind in marks.items() if text[place:place + len(mark)] == mark}


def free_steps(book, text, place, doors):
    """All steps that a free reading can take there, each with the doors behind it."""
    here = (doors[-1][0] if doors else 0, len(doors))
    if text[place] == book[here[0]][0]:
        is_cut = place + 1 == len(text)
        return [((place, 1, "cut") + here if is_cut else (place, 2, "escape") + here, doors)]
    found = []
    for mark, behind in marks_by_rules(book, text, place, doors).items():
        word = "open" if len(behind) > len(doors) else "close"
        around = here if word == "open" else (behind[-1][0] if behind else 0, len(behind))
        found.append(((place, len(mark), word) + around, behind))
    return found or [((place, 1, "sign") + here, doors)]


def whole_by_choices(book, text, place=0, doors=()):
    """All whole free readings, by going through all choices."""
    if place == len(text):
        return [] if doors else [[]]
    found = []
    for step, behind in free_steps(book, text, place, doors):
        if step[2] != "cut":
            found += [[step] + rest for rest in whole_by_choices(book, text, place + step[1], behind)]
    return found


def count_whole(book, text):
    """How many whole free readings there are, each place with the same doors being looked at once."""
    @functools.lru_cache(maxsize=None)
    def count(place, doors):
        if place == len(text):
            return 0 if doors else 1
        ways = free_steps(book, text, place, doors)
        return sum(count(place + step[1], behind) for step, behind in ways if step[2] != "cut")
    return count(0, ())


def forks_by_rules(book, text):
    """The forks, by the steps and what is open ahead of each of them."""
    found = []
    for step in told_by_rules(book, text)[0]:
        ends = told_by_rules(book, text[:step[0]])[1]
        marks = marks_by_rules(book, text, step[0], tuple((inner, close) for place, inner, close in ends))
        if len(marks) > 1:
            found.append((step[0], tuple(sorted(marks, key=lambda mark: -len(mark)))))
    return found


class BooksTest(unittest.TestCase):
    def test_the_books_of_these_tests_are_books(self):
        for book in (ROWS, CLOSES, TRAPS, SHUTS):
            self.assertIs(is_book(book), True, book)


class ForksTest(unittest.TestCase):
    def test_a_text_of_no_signs(self):
        for book in BOOKS:
            self.assertEqual(forks(book, ""), [])

    def test_texts_that_have_none(self):
        self.assertEqual(forks(BARE, "ab"), [])
        self.assertEqual(forks(WORDS, '"a${(*b*)}"'), [])
        self.assertEqual(forks(LENGTHS, "a"), [])
        self.assertEqual(forks(FORKED, "<.<.<"), [])

    def test_the_longest_first(self):
        self.assertEqual(forks(LENGTHS, "aa"), [(0, ("aa", "a"))])
        self.assertEqual(forks(LENGTHS, "aaa"), [(0, ("aaa", "aa", "a"))])
        self.assertEqual(forks(LENGTHS, "aaaaa"), [(0, ("aaaa", "aaa", "aa", "a"))])

    def test_a_close_and_opens(self):
        self.assertEqual(forks(AGAINST, "<>>"), [(1, (">>", ">"))])
        self.assertEqual(forks(AGAINST, "<>-->"), [(1, (">-->", ">"))])
        self.assertEqual(forks(SHUTS, "<>>>"), [(1, (">>>", ">>", ">"))])

    def test_only_where_the_reading_has_a_step(self):
        # `aa` would fit at 1 and at 2, but there the reading has none of its steps.
        self.assertEqual(forks(ROWS, "aaaab"), [(0, ("aaaa", "aaa", "aa", "a"))])
        self.assertEqual(forks(ROWS, "aaaaaab"), [(0, ("aaaa", "aaa", "aa", "a")), (4, ("aa", "a"))])

    def test_only_with_what_the_reading_has_open(self):
        self.assertEqual(forks(FORKED, "<<a>>"), [(0, ("<<", "<")), (3, (">>", ">"))])
        self.assertEqual(forks(FORKED, "<a<a>>"), [])

    def test_behind_an_escape(self):
        self.assertEqual(forks(FORKED, "\\<<<"), [(2, ("<<", "<"))])
        self.assertEqual(forks(FORKED, "\\<<"), [])

    def test_all_short_texts(self):
        for book, signs in MORE_SIGNS:
            for text in short_texts(signs, 5 if len(signs) < 5 else 4):
                self.assertEqual(forks(book, text), forks_by_rules(book, text), (book, text))

    def test_long_texts(self):
        for book, signs in MORE_SIGNS:
            text = long_text(signs, 200)
            self.assertEqual(forks(book, text), forks_by_rules(book, text), (book, text))

    def test_2000_signs(self):
        four = ("aaaa", "aaa", "aa", "a")
        # Python would take minutes to show how two such long lists differ.
        self.assertTrue(forks(ROWS, "a" * 2000) == [(place, four) for place in range(0, 2000, 4)])
        self.assertEqual(forks(BRACKETS, "<" * 1000 + ">" * 1000), [])


class FreeCheck(TimedCase):
    def check_whole(self, book, text, told):
        """Checks that these steps are a whole free reading."""
        self.assertIsInstance(told, list)
        place, doors = 0, ()
        for step in told:
            ways = dict(free_steps(book, text, place, doors))
            self.assertIn(step, ways, (book, text))
            self.assertNotEqual(step[2], "cut", (book, text))
            doors = ways[step]
            place += step[1]
        self.assertEqual((place, doors), (len(text), ()), (book, text))

    def check_told(self, book, text, many):
        """Checks what is told where so many free readings are whole, and gives it back."""
        told = free_readings(book, text)
        self.assertIs(type(told), tuple)
        word = ("none", "one", "two")[min(many, 2)]
        self.assertEqual(told[0], word, (book, text))
        self.assertEqual(len(told), 1 + min(many, 2), (book, text))
        for reading in told[1:]:
            self.check_whole(book, text, reading)
        if word == "two":
            self.assertNotEqual(told[1], told[2], (book, text))
        return told


class FreeReadingsTest(FreeCheck):
    def test_a_text_of_no_signs(self):
        for book in BOOKS:
            self.assertEqual(free_readings(book, ""), ("one", []))

    def test_none(self):
        self.assertEqual(free_readings(WORDS, '"a'), ("none",))
        self.assertEqual(free_readings(BRACKETS, "<<>"), ("none",))
        self.assertEqual(free_readings(LENGTHS, "aaaa"), ("none",))

    def test_a_cut_is_not_whole(self):
        self.assertEqual(free_readings(ESCAPED, "\\"), ("none",))
        self.assertEqual(free_readings(ESCAPED, "a\\\\\\"), ("none",))
        self.assertEqual(free_readings(BRACKETS, "<>\\"), ("none",))
        self.assertEqual(free_readings(ESCAPES, "(1"), ("none",))

    def test_escapes(self):
        self.assertEqual(free_readings(ESCAPED, "\\\\"), ("one", [(0, 2, "escape", 0, 0)]))
        self.assertEqual(free_readings(BRACKETS, "\\<"), ("one", [(0, 2, "escape", 0, 0)]))
        self.assertEqual(free_readings(BRACKETS, "<\\>"), ("none",))

    def test_an_escape_in_one_reading_that_is_a_sign_in_the_other(self):
        # Behind `(` the escape takes the close; behind `((` it is a sign.
        book = (("", (("(", 1, ")"), ("((", 2, ")"))), ("^", ()), ("", ()))
        self.assertIs(is_book(book), True)
        self.assertEqual(
            free_readings(book, "((^)"),
            ("one", [(0, 2, "open", 0, 0), (2, 1, "sign", 2, 1), (3, 1, "close", 0, 0)]),
        )

    def test_escapes_that_hang_on_the_choice(self):
        # Behind `(` the first `^` is a sign and the door is shut at once; behind `((` it takes the close.
        book = (("^", (("(", 1, ")"), ("((", 2, ")"))), ("", ()), ("^", ()))
        self.assertIs(is_book(book), True)
        self.check_told(book, "((^)", 1)
        self.check_told(book, "((^)^", 0)
        self.check_told(book, "((^)^^", 1)
        self.check_told(book, "((^)^^)", 2)
        self.check_told(book, "((^)^^)^", 0)

    def test_just_one_that_is_the_reading_itself(self):
        text = '"a\\"${(*b*)}"c'
        self.assertEqual(free_readings(WORDS, text), ("one", told_by_rules(WORDS, text)[0]))

    def test_just_one_that_is_not_the_reading_itself(self):
        self.assertEqual(
            free_readings(TRAPS, "<<>>"),
            ("one", [(0, 1, "open", 0, 0), (1, 1, "open", 0, 1), (2, 1, "close", 0, 1), (3, 1, "close", 0, 0)]),
        )

    def test_two(self):
        told = self.check_told(LENGTHS, "aaz", 2)
        one = [(0, 1, "open", 0, 0), (1, 1, "sign", 1, 1), (2, 1, "close", 0, 0)]
        other = [(0, 2, "open", 0, 0), (2, 1, "close", 0, 0)]
        self.assertIn(told[1:], ((one, other), (other, one)))

    def test_more_than_two(self):
        self.check_told(LENGTHS, "aaaaz", 4)
        self.check_told(ROWS, "aaaabb", 3)

    def test_a_close_must_not_be_passed_over(self):
        # Where the close alone fits it is taken, so that no free reading goes on within the door.
        self.check_told(BRACKETS, "<>>", 1)
        self.check_told(WORDS, '"""', 0)

    def test_an_open_must_not_be_passed_over(self):
        self.check_told(WORDS, "{", 0)
        self.check_told(LENGTHS, "aaz", 2)

    def test_an_open_in_the_place_of_a_close(self):
        self.check_told(SHUTS, "<>>>", 1)
        self.check_told(SHUTS, "<>>>!", 1)
        self.check_told(SHUTS, "<>>>!>>>", 3)

    def test_all_texts_of_few_signs(self):
        for book, text in all_short_texts():
            self.check_told(book, text, len(whole_by_choices(book, text)))

    def test_more_texts_of_few_signs(self):
        for book, signs in ((ROWS, "ab"), (CLOSES, "ab"), (FORKED, "<>"), (LENGTHS, "az"), (SHUTS, "<>!")):
            for text in short_texts(signs, 10 if len(signs) == 2 else 7):
                self.check_told(book, text, len(whole_by_choices(book, text)))

    def test_one_told_is_the_one_there_is(self):
        for book, text in all_short_texts():
            found = whole_by_choices(book, text)
            if len(found) == 1:
                self.assertEqual(free_readings(book, text), ("one", found[0]))

    def test_texts_of_more_signs(self):
        chance = random.Random(11)
        for book, signs in MORE_SIGNS:
            for number in range(40):
                text = "".join(chance.choice(signs) for sign in range(chance.randint(8, 16)))
                self.check_told(book, text, count_whole(book, text))

    def test_the_reading_itself_is_free(self):
        for book, text in all_short_texts():
            told, ends = told_by_rules(book, text)
            if not ends:
                found = free_readings(book, text)
                self.assertNotEqual(found[0], "none")
                if found[0] == "one":
                    self.assertEqual(found[1], told)


class LongFreeReadingsTest(FreeCheck):
    def test_rows_of_one_sign_alone(self):
        self.check_told(BARE, "a" * 60, 1)
        self.check_told(LENGTHS, "a" * 60, 0)
        self.check_told(ROWS, "a" * 60, 0)
        self.check_told(CLOSES, "a" * 60, 0)
        self.check_told(ROWS, "b" * 60, 1)
        self.check_told(FORKED, "<" * 60, 0)
        self.check_told(ESCAPED, "\\" * 60, 1)
        self.check_told(ESCAPED, "\\" * 59, 0)

    def test_doors_nested_as_deep_as_can_be(self):
        deep = "<" * 30 + ">" * 30
        self.assertEqual(free_readings(BRACKETS, deep), ("one", told_by_rules(BRACKETS, deep)[0]))
        self.check_told(BRACKETS, "<" * 31 + ">" * 29, 0)
        self.check_told(BRACKETS, "<" * 29 + ">" * 31, 1)
        self.check_told(FORKED, deep, 2)
        self.check_told(ROWS, "a" * 30 + "b" * 30, 2)
        self.check_told(CLOSES, "a" * 30 + "b" * 30, 2)

    def test_many_choices_of_which_none_is_whole(self):
        self.check_told(ROWS, "a" * 50 + "b" * 10, 0)
        self.check_told(CLOSES, "a" * 31 + "b" * 29, 0)
        self.check_told(TRAPS, "<" * 31 + ">" * 29, 0)

    def test_many_choices_of_which_just_one_is_whole(self):
        self.check_told(ROWS, "a" * 48 + "b" * 12, 1)
        told = self.check_told(TRAPS, "<" * 30 + ">" * 30, 1)
        self.assertEqual([step[1] for step in told[1]], [1] * 60)

    def test_many_choices_of_which_few_are_whole(self):
        # All opens of four signs but one of three, which may be any of the twelve.
        self.check_told(ROWS, "a" * 47 + "b" * 12, 12)
        # The longer open, shut by `!`, or two shorter ones with `!` as a sign, for which more closes are needed.
        self.check_told(TRAPS, "<<!" + "<" * 27 + ">" * 29, 2)
        self.check_told(TRAPS, "<<!" + "<" * 27 + ">" * 28, 1)
        self.check_told(TRAPS, "<<!" + "<" * 27 + ">" * 26, 0)

    def test_60_signs_by_counting(self):
        chance = random.Random(13)
        for book, signs in SIGNS:
            if book in (WORDS, BRACKETS, LINES, ESCAPES, LENGTHS):
                for number in range(20):
                    text = "".join(chance.choice(signs) for sign in range(60))
                    self.check_told(book, text, count_whole(book, text))

    def test_many_doors(self):
        marks = (("a", "b"), ("aa", "bb"), ("aaa", "bbb"), ("aaaa", "bbbb"), ("c", "ba"), ("ca", "bab"))
        book = tuple(
            ("", tuple((opening, (tongue + number) % 6, close) for number, (opening, close) in enumerate(marks)))
            for tongue in range(6)
        )
        self.assertIs(is_book(book), True)
        self.check_told(book, "a" * 60, 0)
        self.check_told(book, "a" * 30 + "b" * 30, 2)
        self.check_told(book, "aabb" * 15, 2)
        self.check_told(book, "ab" * 30, 1)


class PromisesTest(unittest.TestCase):
    def test_told_lists_are_new_ones(self):
        text = "<<a>>"
        kept = forks(FORKED, text)
        told = forks(FORKED, text)
        self.assertIsInstance(told, list)
        told.clear()
        self.assertEqual(forks(FORKED, text), kept)
        forks(FORKED, "").append("mine")
        self.assertEqual(forks(FORKED, ""), [])

    def test_told_readings_are_new_ones(self):
        for book, text in ((FORKED, "<<>>>"), (ROWS, "aaaabb"), (BRACKETS, "<>"), (BARE, "")):
            kept = copy.deepcopy(free_readings(book, text))
            told = free_readings(book, text)
            for reading in told[1:]:
                reading.clear()
                reading.append("mine")
            self.assertEqual(free_readings(book, text), kept)

    def test_two_told_readings_are_not_one_list(self):
        told = free_readings(LENGTHS, "aaz")
        self.assertEqual(told[0], "two")
        kept = list(told[2])
        told[1].clear()
        self.assertEqual(told[2], kept)

    def test_kinds_of_values(self):
        for fork in forks(FORKED, "<<a>>"):
            self.assertIs(type(fork), tuple)
            self.assertEqual([type(part) for part in fork], [int, tuple])
        for reading in free_readings(ROWS, "aabb")[1:]:
            for step in reading:
                self.assertIs(type(step), tuple)
                self.assertEqual([type(part) for part in step], [int, int, str, int, int])

    def test_asked_again_the_same_is_told(self):
        for book, signs in MORE_SIGNS:
            for text in short_texts(signs, 3):
                self.assertEqual(forks(book, text), forks(book, text))
                self.assertEqual(free_readings(book, text), free_readings(book, text))

    def test_what_is_handed_in_is_unchanged(self):
        for book, signs in MORE_SIGNS:
            before = copy.deepcopy(book)
            forks(book, long_text(signs, 60))
            free_readings(book, long_text(signs, 60))
            self.assertEqual(book, before)


if __name__ == "__main__":
    unittest.main()
