"""[9] and [10], and what [2] and [3] say of readers."""

import copy
import itertools
import unittest

from tests.samples import (
    AGAINST, BARE, BOOKS, BRACKETS, ESCAPED, ESCAPES, FORKED, LENGTHS, LINES, SIGNS, WORDS, end_of, long_text,
    short_texts, standing_by_rules, sure_by_tails, told_by_rules,
)
from tonguenest.books import is_book
from tonguenest.readers import Reader


def told_at_each(book, pieces):
    """What a reader tells at each piece, and at the end."""
    reader = Reader(book)
    return [reader.feed(piece) for piece in pieces] + [reader.finish()]


def words_at_each(book, text):
    """The words of the steps that are told at each sign, and at the end."""
    return [[step[2] for step in told] for told in told_at_each(book, text)]


def all_cuts(text):
    """All ways to cut a text into pieces."""
    for ends in itertools.product((False, True), repeat=max(len(text) - 1, 0)):
        pieces, begin = [], 0
        for end, is_cut in enumerate(ends, 1):
            if is_cut:
                pieces.append(text[begin:end])
                begin = end
        yield pieces + [text[begin:]]


class ToldReaderTest(unittest.TestCase):
    def check_pieces(self, reader, book, pieces):
        """Tells the reader the pieces, and checks all that it tells by what is sure."""
        text, told = "", []
        for piece in pieces:
            text += piece
            told += reader.feed(piece)
            self.assertEqual(tuple(told), sure_by_tails(book, text), (book, pieces, text))
            self.check_standing(reader, book, text, told)
        told += reader.finish()
        self.assertEqual(told, told_by_rules(book, text)[0], (book, pieces))
        self.assertEqual(reader.standing(), ())
        self.assertEqual(reader.held(), 0)

    def check_standing(self, reader, book, text, told):
        self.assertEqual(reader.standing(), standing_by_rules(book, text[:end_of(told)]), (book, text))
        self.assertEqual(reader.held(), len(text) - end_of(told), (book, text))


class SureTest(unittest.TestCase):
    def test_a_sign_of_a_book_without_marks(self):
        self.assertEqual(
            told_at_each(BARE, "ab"),
            [[(0, 1, "sign", 0, 0)], [(1, 1, "sign", 0, 0)], []],
        )

    def test_an_escape_is_sure_at_its_second_sign(self):
        self.assertEqual(
            told_at_each(ESCAPED, "\\a\\\\"),
            [[], [(0, 2, "escape", 0, 0)], [], [(2, 2, "escape", 0, 0)], []],
        )

    def test_an_escape_of_another_tongue_is_a_sign_at_once(self):
        self.assertEqual(
            told_at_each(ESCAPES, "1(01"),
            [[(0, 1, "sign", 0, 0)], [(1, 1, "open", 0, 0)], [(2, 1, "sign", 1, 1)], [], [(3, 1, "cut", 1, 1)]],
        )

    def test_a_cut_is_told_at_the_end_alone(self):
        self.assertEqual(told_at_each(ESCAPED, ["a\\"]), [[(0, 1, "sign", 0, 0)], [(1, 1, "cut", 0, 0)]])
        self.assertEqual(told_at_each(ESCAPED, ["\\", "", ""]), [[], [], [], [(0, 1, "cut", 0, 0)]])

    def test_a_mark_that_no_longer_one_begins_with_is_sure_at_its_last_sign(self):
        self.assertEqual(words_at_each(WORDS, '"a"'), [["open"], ["sign"], ["close"], []])
        self.assertEqual(words_at_each(WORDS, "(**)"), [[], ["open"], [], ["close"], []])
        self.assertEqual(words_at_each(LINES, "<!---->"), [[], [], [], ["open"], [], [], ["close"], []])

    def test_a_mark_that_a_longer_one_begins_with_waits_for_it(self):
        self.assertEqual(words_at_each(LENGTHS, "aaaa"), [[], [], [], ["open"], []])
        self.assertEqual(words_at_each(LENGTHS, "aaa."), [[], [], [], ["open", "sign"], []])
        self.assertEqual(words_at_each(LENGTHS, "a."), [[], ["open", "sign"], []])
        self.assertEqual(words_at_each(LENGTHS, "aaa"), [[], [], [], ["open"]])

    def test_a_sign_at_which_a_mark_could_begin_waits(self):
        self.assertEqual(words_at_each(WORDS, "(a"), [[], ["sign", "sign"], []])
        self.assertEqual(words_at_each(WORDS, "("), [[], ["sign"]])
        self.assertEqual(words_at_each(LINES, "<!-."), [[], [], [], ["sign"] * 4, []])

    def test_a_sign_at_which_a_mark_of_another_tongue_could_begin_is_sure(self):
        # In tongue 1 of WORDS `(*` is no open, in tongue 0 `${` is none, and `*)` shuts no door there.
        self.assertEqual(words_at_each(WORDS, '"('), [["open"], ["sign"], []])
        self.assertEqual(words_at_each(WORDS, "$*"), [["sign"], ["sign"], []])

    def test_a_sign_at_which_the_close_could_begin_waits_within_the_door_alone(self):
        self.assertEqual(words_at_each(WORDS, "(***)"), [[], ["open"], [], ["sign"], ["close"], []])
        self.assertEqual(words_at_each(WORDS, "*"), [["sign"], []])

    def test_only_the_close_of_the_innermost_door_could_fit(self):
        self.assertEqual(words_at_each(AGAINST, "<-]>"), [["open"], ["open"], ["close"], [], ["open"]])
        self.assertEqual(words_at_each(AGAINST, "<->"), [["open"], ["open"], ["sign"], []])

    def test_a_close_against_a_longer_open(self):
        # Within `<` of AGAINST the close is `>>`, and there are the opens `>` and `>-->`.
        self.assertEqual(words_at_each(AGAINST, "<>>"), [["open"], [], ["close"], []])
        self.assertEqual(words_at_each(AGAINST, "<>-->"), [["open"], [], [], [], ["open"], []])
        self.assertEqual(words_at_each(AGAINST, "<>--]"), [["open"], [], [], [], ["open", "sign", "sign", "close"], []])
        self.assertEqual(words_at_each(AGAINST, "<>]"), [["open"], [], ["open", "close"], []])

    def test_a_close_that_a_longer_close_of_another_door_begins_with(self):
        book = (("", (("(", 1, ")"), ("[", 1, ")))"))), ("", ()))
        self.assertIs(is_book(book), True)
        self.assertEqual(words_at_each(book, "())"), [["open"], ["close"], ["sign"], []])
        self.assertEqual(words_at_each(book, "[)))"), [["open"], [], [], ["close"], []])

    def test_a_step_that_is_sure_behind_one_that_is_not_waits_for_it(self):
        book = (("", (("abc", 0, "z"),)),)
        self.assertIs(is_book(book), True)
        self.assertEqual(words_at_each(book, "ab"), [[], [], ["sign", "sign"]])
        self.assertEqual(words_at_each(book, "abd"), [[], [], ["sign"] * 3, []])
        self.assertEqual(words_at_each(book, "aba"), [[], [], ["sign", "sign"], ["sign"]])

    def test_a_mark_could_begin_at_the_second_sign_of_one_that_did_not_fit(self):
        self.assertEqual(words_at_each(LINES, "<<!--"), [[], ["sign"], [], [], ["open"], []])
        self.assertEqual(words_at_each(AGAINST, "<>->>"), [["open"], [], [], ["open", "sign", "sign"], ["sign"], []])


class FeedTest(ToldReaderTest):
    def test_a_reader_that_is_told_nothing(self):
        for book in BOOKS:
            self.check_pieces(Reader(book), book, [])
            self.check_pieces(Reader(book), book, [""])
            self.check_pieces(Reader(book), book, ["", "", ""])

    def test_all_short_texts_sign_by_sign(self):
        for book, signs in SIGNS:
            for text in short_texts(signs, 5 if len(signs) < 5 else 4):
                self.check_pieces(Reader(book), book, text)

    def test_all_short_texts_at_once(self):
        for book, signs in SIGNS:
            for text in short_texts(signs, 5 if len(signs) < 5 else 4):
                self.check_pieces(Reader(book), book, [text])

    def test_all_cuts_of_short_texts(self):
        for book, signs in SIGNS:
            for text in short_texts(signs, 4):
                if len(text) == 4:
                    for pieces in all_cuts(text):
                        self.check_pieces(Reader(book), book, pieces)

    def test_pieces_of_all_lengths(self):
        for book, signs in SIGNS:
            text = long_text(signs, 60)
            for many in range(1, 61):
                self.check_pieces(Reader(book), book, [text[at:at + many] for at in range(0, 60, many)])

    def test_pieces_of_no_signs_between(self):
        for book, signs in SIGNS:
            text = long_text(signs, 60)
            pieces = [piece for sign in text for piece in ("", sign, "")]
            self.check_pieces(Reader(book), book, pieces)

    def test_a_piece_of_no_signs_tells_nothing(self):
        for book, signs in SIGNS:
            reader = Reader(book)
            for sign in long_text(signs, 60):
                reader.feed(sign)
                self.assertEqual(reader.feed(""), [])

    def test_places_are_those_in_the_whole_text(self):
        self.assertEqual(
            told_at_each(WORDS, ["ab(", "*c*", ')"\\', '""']),
            [
                [(0, 1, "sign", 0, 0), (1, 1, "sign", 0, 0)],
                [(2, 2, "open", 0, 0), (4, 1, "sign", 2, 1)],
                [(5, 2, "close", 0, 0), (7, 1, "open", 0, 0)],
                [(8, 2, "escape", 1, 1), (10, 1, "close", 0, 0)],
                [],
            ],
        )

    def test_a_second_text(self):
        for book, signs in SIGNS:
            reader = Reader(book)
            for text in list(short_texts(signs, 3)) + [long_text(signs, 30)]:
                self.check_pieces(reader, book, text)

    def test_a_second_text_behind_open_doors_and_a_cut(self):
        reader = Reader(WORDS)
        reader.feed('"${"\\')
        self.assertEqual(reader.finish(), [(4, 1, "cut", 1, 3)])
        self.assertEqual(reader.finish(), [])
        self.assertEqual(reader.feed("\\a"), [(0, 1, "sign", 0, 0), (1, 1, "sign", 0, 0)])

    def test_two_readers_by_turns(self):
        for book, signs in SIGNS:
            one, other = Reader(book), Reader(book)
            text, turned = long_text(signs, 60), long_text(signs[::-1], 60)
            told, told_too = [], []
            for many in range(60):
                told += one.feed(text[many])
                told_too += other.feed(turned[many])
                self.check_standing(one, book, text[:many + 1], told)
                self.check_standing(other, book, turned[:many + 1], told_too)
            self.assertEqual(told + one.finish(), told_by_rules(book, text)[0])
            self.assertEqual(told_too + other.finish(), told_by_rules(book, turned)[0])

    def test_standing_and_held(self):
        reader = Reader(WORDS)
        self.assertEqual((reader.standing(), reader.held()), ((), 0))
        reader.feed('a"b$')
        self.assertEqual((reader.standing(), reader.held()), (((1, '"'),), 1))
        reader.feed("{")
        self.assertEqual((reader.standing(), reader.held()), (((1, '"'), (0, "}")), 0))
        reader.feed('}\\')
        self.assertEqual((reader.standing(), reader.held()), (((1, '"'),), 1))
        reader.finish()
        self.assertEqual((reader.standing(), reader.held()), ((), 0))

    def test_a_door_that_is_not_told_does_not_stand(self):
        reader = Reader(LENGTHS)
        reader.feed("aaa")
        self.assertEqual((reader.standing(), reader.held()), ((), 3))
        reader.feed(".")
        self.assertEqual((reader.standing(), reader.held()), (((3, "z"),), 0))


class LongTextsTest(unittest.TestCase):
    def check(self, book, text):
        whole = told_by_rules(book, text)[0]
        for many in (1, 2, 3, 7, 500, 1999, 2000):
            pieces = [text[at:at + many] for at in range(0, len(text), many)]
            # Python would take minutes to show how two such long lists differ.
            self.assertTrue(sum(told_at_each(book, pieces), []) == whole, (book, many))

    def test_2000_signs(self):
        for book, signs in SIGNS:
            self.check(book, long_text(signs, 2000))

    def test_nested_as_deep_as_can_be(self):
        self.check(BRACKETS, "<" * 2000)
        self.check(BRACKETS, "<" * 1000 + ">" * 1000)
        self.check(FORKED, "<" * 2000)
        self.check(FORKED, "<" * 1000 + ">" * 1000)

    def test_the_standing_of_2000_open_doors(self):
        reader = Reader(BRACKETS)
        for many in range(1, 2001):
            reader.feed("<")
            self.assertEqual(len(reader.standing()), many)
        self.assertEqual(reader.standing(), ((0, ">"),) * 2000)
        self.assertEqual(reader.held(), 0)


class PromisesTest(unittest.TestCase):
    def test_told_lists_are_new_ones(self):
        for pieces in (['"a', "${\\"], ["", ""]):
            reader, other = Reader(WORDS), Reader(WORDS)
            for piece in pieces:
                told = reader.feed(piece)
                self.assertIsInstance(told, list)
                told.clear()
                told.append("mine")
                other.feed(piece)
                self.assertEqual((reader.standing(), reader.held()), (other.standing(), other.held()))
            last = reader.finish()
            self.assertIsInstance(last, list)
            self.assertEqual(last, other.finish())
            last.append("mine")
            self.assertEqual(reader.feed(""), [])
            self.assertEqual(reader.finish(), [])

    def test_kinds_of_values(self):
        reader = Reader(WORDS)
        for step in reader.feed('"a\\b${(*x*)}" c'):
            self.assertIsInstance(step, tuple)
            self.assertEqual([type(part) for part in step], [int, int, str, int, int])
        reader.feed('"${')
        self.assertIsInstance(reader.standing(), tuple)
        self.assertEqual([type(door) for door in reader.standing()], [tuple, tuple])
        self.assertIs(type(reader.held()), int)

    def test_asking_changes_nothing(self):
        reader, asked = Reader(WORDS), Reader(WORDS)
        for sign in '"a${(*\\*)}\\':
            self.assertEqual(reader.feed(sign), asked.feed(sign))
            for answer in range(2):
                asked.standing()
                asked.held()
            self.assertEqual((reader.standing(), reader.held()), (asked.standing(), asked.held()))
        self.assertEqual(reader.finish(), asked.finish())

    def test_what_is_handed_in_is_unchanged(self):
        for book, signs in SIGNS:
            before = copy.deepcopy(book)
            told_at_each(book, long_text(signs, 60))
            self.assertEqual(book, before)


if __name__ == "__main__":
    unittest.main()
