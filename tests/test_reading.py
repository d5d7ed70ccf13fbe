"""[5] to [8], and what [2] and [3] say of reading."""

import copy
import unittest

from tests.samples import (
    AGAINST, BARE, BOOKS, BRACKETS, ESCAPED, ESCAPES, LENGTHS, LINES, SIGNS, WORDS, all_short_texts, long_text,
    told_by_rules,
)
from tonguenest.books import is_book
from tonguenest.reading import standing, steps, tongues, unfinished


def words_of(book, text):
    """The steps of a text as (its signs, word)."""
    return [(text[place:place + many], word) for place, many, word, tongue, depth in steps(book, text)]


class BooksTest(unittest.TestCase):
    def test_the_books_of_these_tests_are_books(self):
        for book in BOOKS:
            self.assertIs(is_book(book), True, book)


class StepsTest(unittest.TestCase):
    def test_a_text_of_no_signs(self):
        for book in BOOKS:
            self.assertEqual(steps(book, ""), [])

    def test_signs(self):
        self.assertEqual(steps(BARE, "a \n"), [(0, 1, "sign", 0, 0), (1, 1, "sign", 0, 0), (2, 1, "sign", 0, 0)])

    def test_an_escape_makes_the_next_sign_plain(self):
        self.assertEqual(
            steps(BRACKETS, "\\<a\\>"),
            [(0, 2, "escape", 0, 0), (2, 1, "sign", 0, 0), (3, 2, "escape", 0, 0)],
        )

    def test_an_escape_ahead_of_the_close(self):
        self.assertEqual(
            steps(WORDS, '"\\""'),
            [(0, 1, "open", 0, 0), (1, 2, "escape", 1, 1), (3, 1, "close", 0, 0)],
        )

    def test_an_escape_ahead_of_a_mark_of_two_signs_makes_its_first_sign_plain(self):
        self.assertEqual(words_of(WORDS, '"\\${'), [('"', "open"), ("\\$", "escape"), ("{", "sign")])

    def test_an_escape_ahead_of_an_escape(self):
        self.assertEqual(words_of(BRACKETS, "\\\\<"), [("\\\\", "escape"), ("<", "open")])
        self.assertEqual(words_of(BRACKETS, "\\\\\\<"), [("\\\\", "escape"), ("\\<", "escape")])

    def test_an_escape_as_the_last_sign_is_a_cut(self):
        self.assertEqual(steps(ESCAPED, "\\"), [(0, 1, "cut", 0, 0)])
        self.assertEqual(steps(ESCAPED, "a\\"), [(0, 1, "sign", 0, 0), (1, 1, "cut", 0, 0)])
        self.assertEqual(steps(WORDS, '"\\'), [(0, 1, "open", 0, 0), (1, 1, "cut", 1, 1)])

    def test_an_escaped_escape_as_the_last_sign_is_no_cut(self):
        self.assertEqual(steps(ESCAPED, "\\\\"), [(0, 2, "escape", 0, 0)])
        self.assertEqual(words_of(ESCAPED, "\\\\\\"), [("\\\\", "escape"), ("\\", "cut")])

    def test_an_escape_ahead_of_a_blank_and_of_a_line_end(self):
        self.assertEqual(words_of(ESCAPED, "\\ \\\n"), [("\\ ", "escape"), ("\\\n", "escape")])

    def test_an_escape_of_another_tongue_is_a_sign(self):
        self.assertEqual(words_of(WORDS, '\\"'), [("\\", "sign"), ('"', "open")])
        self.assertEqual(
            words_of(ESCAPES, "1(0(01)1))"),
            [("1", "sign"), ("(", "open"), ("0", "sign"), ("(", "open"), ("0", "sign"), ("1", "sign"),
             (")", "close"), ("1)", "escape"), (")", "close")],
        )

    def test_the_longest_of_several_opens(self):
        for many in range(1, 5):
            self.assertEqual(
                steps(LENGTHS, "a" * many + "."),
                [(0, many, "open", 0, 0), (many, 1, "sign", many, 1)],
            )
        self.assertEqual(words_of(LENGTHS, "aaaaa"), [("aaaa", "open"), ("a", "sign")])

    def test_the_close_against_a_shorter_open(self):
        self.assertEqual(
            steps(AGAINST, "<>>"),
            [(0, 1, "open", 0, 0), (1, 2, "close", 0, 0)],
        )

    def test_an_open_where_the_close_does_not_fit(self):
        self.assertEqual(
            steps(AGAINST, "<>."),
            [(0, 1, "open", 0, 0), (1, 1, "open", 1, 1), (2, 1, "sign", 2, 2)],
        )

    def test_an_open_against_a_shorter_open_where_the_close_does_not_fit(self):
        self.assertEqual(words_of(AGAINST, "<>-->"), [("<", "open"), (">-->", "open")])
        self.assertEqual(words_of(AGAINST, "<>--"), [("<", "open"), (">", "open"), ("-", "sign"), ("-", "sign")])

    def test_the_close_against_an_open_of_two_signs_fewer(self):
        book = (("", (("<", 1, "abc"),)), ("", (("a", 1, "z"), ("ab", 1, "y"))))
        self.assertIs(is_book(book), True)
        self.assertEqual(words_of(book, "<abc"), [("<", "open"), ("abc", "close")])
        self.assertEqual(words_of(book, "<abd"), [("<", "open"), ("ab", "open"), ("d", "sign")])
        self.assertEqual(words_of(book, "<acb"), [("<", "open"), ("a", "open"), ("c", "sign"), ("b", "sign")])

    def test_only_the_innermost_door_is_shut(self):
        self.assertEqual(
            words_of(WORDS, '"${(*"}*)}"'),
            [('"', "open"), ("${", "open"), ("(*", "open"), ('"', "sign"), ("}", "sign"), ("*)", "close"),
             ("}", "close"), ('"', "close")],
        )

    def test_a_close_with_no_door_open_is_signs(self):
        self.assertEqual(words_of(WORDS, "}*)"), [("}", "sign"), ("*", "sign"), (")", "sign")])
        self.assertEqual(words_of(BRACKETS, ">"), [(">", "sign")])
        self.assertEqual(words_of(BRACKETS, "<>>"), [("<", "open"), (">", "close"), (">", "sign")])

    def test_the_same_inner_tongue_with_another_close(self):
        self.assertEqual(words_of(AGAINST, "[<x"), [("[", "open"), ("<", "open"), ("x", "close")])
        self.assertEqual(words_of(AGAINST, "<x"), [("<", "open"), ("x", "sign")])

    def test_a_mark_of_which_only_a_part_is_there(self):
        self.assertEqual(words_of(WORDS, "("), [("(", "sign")])
        self.assertEqual(words_of(WORDS, "(**"), [("(*", "open"), ("*", "sign")])
        self.assertEqual(words_of(LINES, "<!-"), [("<", "sign"), ("!", "sign"), ("-", "sign")])
        self.assertEqual(words_of(LINES, "<!----"), [("<!--", "open"), ("-", "sign"), ("-", "sign")])

    def test_a_mark_of_line_ends(self):
        self.assertEqual(words_of(LINES, "--a\nb"), [("--", "open"), ("a", "sign"), ("\n", "close"), ("b", "sign")])
        self.assertEqual(words_of(LINES, "<!--\n\n."), [("<!--", "open"), ("\n", "open"), ("\n.", "close")])

    def test_marks_do_not_overlap(self):
        self.assertEqual(words_of(WORDS, "(*)"), [("(*", "open"), (")", "sign")])
        self.assertEqual(words_of(WORDS, "(*(*)"), [("(*", "open"), ("(*", "open"), (")", "sign")])

    def test_the_tongue_and_depth_of_open_and_close_steps(self):
        self.assertEqual(
            steps(WORDS, '"a${"b"}"'),
            [(0, 1, "open", 0, 0), (1, 1, "sign", 1, 1), (2, 2, "open", 1, 1), (4, 1, "open", 0, 2),
             (5, 1, "sign", 1, 3), (6, 1, "close", 0, 2), (7, 1, "close", 1, 1), (8, 1, "close", 0, 0)],
        )

    def test_a_door_that_leads_back_to_its_own_tongue(self):
        self.assertEqual(
            steps(BRACKETS, "<a<>\\>>"),
            [(0, 1, "open", 0, 0), (1, 1, "sign", 0, 1), (2, 1, "open", 0, 1), (3, 1, "close", 0, 1),
             (4, 2, "escape", 0, 1), (6, 1, "close", 0, 0)],
        )

    def test_a_step_is_a_tuple_of_numbers_and_a_word(self):
        for step in steps(WORDS, '"a\\b${(*x*)}" c'):
            self.assertIsInstance(step, tuple)
            self.assertEqual([type(part) for part in step], [int, int, str, int, int])

    def test_all_short_texts_by_the_rules(self):
        for book, text in all_short_texts():
            self.assertEqual(steps(book, text), told_by_rules(book, text)[0], (book, text))


class LongTextsTest(unittest.TestCase):
    def test_nested_as_deep_as_can_be(self):
        told = steps(BRACKETS, "<" * 2000)
        self.assertEqual(told, [(place, 1, "open", 0, place) for place in range(2000)])
        self.assertEqual(standing(BRACKETS, "<" * 2000), ((0, ">"),) * 2000)
        self.assertEqual(unfinished(BRACKETS, "<" * 2000), [(place, 0, ">") for place in range(2000)])

    def test_nested_and_shut_again(self):
        told = steps(BRACKETS, "<" * 1000 + ">" * 1000)
        self.assertEqual(told[:1000], [(place, 1, "open", 0, place) for place in range(1000)])
        self.assertEqual(told[1000:], [(1000 + place, 1, "close", 0, 999 - place) for place in range(1000)])
        self.assertEqual(standing(BRACKETS, "<" * 1000 + ">" * 1000), ())

    def test_2000_signs_by_the_rules(self):
        for book, signs in SIGNS:
            text = long_text(signs, 2000)
            self.assertEqual(len(text), 2000)
            told, ends = told_by_rules(book, text)
            self.assertEqual(steps(book, text), told)
            self.assertEqual(unfinished(book, text), ends)

    def test_2000_escapes(self):
        self.assertEqual(steps(ESCAPED, "\\" * 2000), [(place, 2, "escape", 0, 0) for place in range(0, 2000, 2)])
        self.assertEqual(steps(ESCAPED, "\\" * 1999)[-1], (1998, 1, "cut", 0, 0))


class TonguesTest(unittest.TestCase):
    def test_a_text_of_no_signs(self):
        self.assertEqual(tongues(WORDS, ""), [])

    def test_each_sign_has_the_tongue_and_depth_of_its_step(self):
        self.assertEqual(
            tongues(WORDS, 'a"\\"${(*x*)}"b'),
            [(0, 0), (0, 0), (1, 1), (1, 1), (1, 1), (1, 1), (0, 2), (0, 2), (2, 3), (0, 2), (0, 2), (1, 1),
             (0, 0), (0, 0)],
        )

    def test_a_cut(self):
        self.assertEqual(tongues(WORDS, '"\\'), [(0, 0), (1, 1)])

    def test_all_short_texts(self):
        for book, text in all_short_texts():
            told = tongues(book, text)
            self.assertEqual(len(told), len(text))
            for place, many, word, tongue, depth in steps(book, text):
                self.assertEqual(told[place:place + many], [(tongue, depth)] * many)


class StandingTest(unittest.TestCase):
    def test_no_door_open(self):
        self.assertEqual(standing(WORDS, ""), ())
        self.assertEqual(standing(WORDS, '"a"'), ())
        self.assertEqual(standing(ESCAPED, "\\"), ())

    def test_one_door_open(self):
        self.assertEqual(standing(WORDS, '"a'), ((1, '"'),))
        self.assertEqual(standing(WORDS, '"${}'), ((1, '"'),))

    def test_several_doors_open_from_the_outermost_one_on(self):
        self.assertEqual(standing(WORDS, '"a${(*(*'), ((1, '"'), (0, "}"), (2, "*)"), (2, "*)")))

    def test_a_cut_is_no_door(self):
        self.assertEqual(standing(WORDS, '"\\'), ((1, '"'),))

    def test_all_short_texts(self):
        for book, text in all_short_texts():
            ends = [(inner, close) for place, inner, close in told_by_rules(book, text)[1] if close]
            self.assertEqual(standing(book, text), tuple(ends), (book, text))


class UnfinishedTest(unittest.TestCase):
    def test_no_door_open(self):
        self.assertEqual(unfinished(WORDS, ""), [])
        self.assertEqual(unfinished(WORDS, 'a"b"c'), [])
        self.assertEqual(unfinished(ESCAPED, "\\\\"), [])

    def test_one_door_open(self):
        self.assertEqual(unfinished(WORDS, 'ab"c'), [(2, 1, '"')])

    def test_doors_shut_ahead_of_those_open(self):
        self.assertEqual(unfinished(WORDS, '"a" (**) {}{"${}'), [(11, 0, "}"), (12, 1, '"')])

    def test_several_doors_open_from_the_outermost_one_on(self):
        self.assertEqual(
            unfinished(WORDS, ' "a${(*b(*'),
            [(1, 1, '"'), (3, 0, "}"), (5, 2, "*)"), (8, 2, "*)")],
        )

    def test_a_cut_without_open_doors(self):
        self.assertEqual(unfinished(ESCAPED, "a\\"), [(1, 0, "")])
        self.assertEqual(unfinished(BRACKETS, "<>\\"), [(2, 0, "")])

    def test_a_cut_behind_open_doors(self):
        self.assertEqual(unfinished(WORDS, '"a\\'), [(0, 1, '"'), (2, 1, "")])
        self.assertEqual(unfinished(WORDS, '{"${"\\'), [(0, 0, "}"), (1, 1, '"'), (2, 0, "}"), (4, 1, '"'), (5, 1, "")])

    def test_all_short_texts(self):
        for book, text in all_short_texts():
            self.assertEqual(unfinished(book, text), told_by_rules(book, text)[1], (book, text))


class PromisesTest(unittest.TestCase):
    def test_the_steps_lie_one_behind_the_other(self):
        for book, text in all_short_texts():
            place = 0
            for step in steps(book, text):
                self.assertEqual(step[0], place)
                self.assertGreaterEqual(step[1], 1)
                place += step[1]
            self.assertEqual(place, len(text))

    def test_what_is_handed_in_is_unchanged(self):
        for book, text in all_short_texts():
            if len(text) == 4:
                before = copy.deepcopy(book)
                for asked in (steps, tongues, standing, unfinished):
                    asked(book, text)
                self.assertEqual(book, before)

    def test_told_lists_are_new_ones(self):
        text = '"a\\b${(*x\\'
        for asked in (steps, tongues, unfinished):
            first = asked(WORDS, text)
            self.assertIsInstance(first, list)
            kept = list(first)
            second = asked(WORDS, text)
            self.assertIsNot(first, second)
            first.clear()
            self.assertEqual(second, kept)
            self.assertEqual(asked(WORDS, text), kept)

    def test_told_lists_of_nothing_are_new_ones(self):
        for asked in (steps, tongues, unfinished):
            first = asked(WORDS, "")
            first.append("mine")
            self.assertEqual(asked(WORDS, ""), [])

    def test_what_is_told_is_made_of_tuples(self):
        text = '"a\\b${(*x'
        self.assertIsInstance(standing(WORDS, text), tuple)
        for asked in (steps, tongues, standing, unfinished):
            for part in asked(WORDS, text):
                self.assertIsInstance(part, tuple)

    def test_asked_again_the_same_is_told(self):
        for asked in (steps, tongues, standing, unfinished):
            told = [asked(book, text) for book, text in all_short_texts() if len(text) <= 4]
            again = [asked(book, text) for book, text in all_short_texts() if len(text) <= 4]
            self.assertEqual(told, again)


if __name__ == "__main__":
    unittest.main()
