"""[18], and what [2] says of it: how a book is written, and which texts are read as one."""

import random
import re
import unittest

from tests.samples import BARE, BOOKS, ESCAPED, ESCAPES, LINES, NO_TEXTS, WORDS, CheckedCase, random_book
from tonguenest.books import is_book
from tonguenest.errors import NoText
from tonguenest.texts import book_text, read_book

# Each book as it is written by hand.
WRITTEN = (
    (BARE, "escape none"),
    (ESCAPED, "escape \\\\"),
    ((("e", ()),), "escape e"),
    ((("-", ()),), "escape -"),
    (WORDS, 'escape none " 1 " (* 2 *) { 0 }\nescape \\\\ ${ 0 }\nescape none (* 2 *)'),
    (LINES, "escape \\\\ -- 1 \\n <!-- 2 -->\nescape ^\nescape none \\n 0 \\n."),
    (ESCAPES, "escape 0 ( 1 )\nescape 1 ( 2 )\nescape none ( 0 )"),
    ((("", (("\\", 0, "\\\\n"),)),), "escape none \\\\ 0 \\\\\\\\n"),
    ((("", (("\\n", 0, "\n\\\n"),)),), "escape none \\\\n 0 \\n\\\\\\n"),
    ((("", (("\\s", 0, "s\\"),)),), "escape none \\\\s 0 s\\\\"),
    ((("", (("none", 0, "0"),)),), "escape none none 0 0"),
    ((("", (("-", 0, "--"),)),), "escape none - 0 --"),
    ((("", ()),) * 6, "\n".join(["escape none"] * 6)),
    ((("", ()),) * 5 + (("", (("a", 5, "b"),)),), "\n".join(["escape none"] * 5) + "\nescape none a 5 b"),
)

# Six tongues of six doors, all marks of four signs, and of signs that are written as two.
WIDEST = tuple(
    ("", tuple(("\n\\\n" + sign, number, "\\\\\\" + sign) for number, sign in enumerate("abcdef")))
    for tongue in range(6)
)


def book_by_rules(text):
    """The book that a text writes, or None, by patterns."""
    sign = r"(?:[!-$&-\[\]-~]|\\[sn\\])"
    number = r"(?:0|[1-9][0-9]*)"
    tongues = []
    for line in text.split("\n"):
        if not re.fullmatch(f"escape {sign}+( {sign}+ {number} {sign}+)*", line):
            return None
        words = line.split(" ")
        if words[1] != "none" and not re.fullmatch(sign, words[1]):
            return None
        marks = [re.sub(r"\\(.)", lambda found: {"s": " ", "n": "\n"}.get(found[1], found[1]), word) for word in words]
        doors = tuple((marks[at], int(words[at + 1]), marks[at + 2]) for at in range(2, len(words), 3))
        tongues.append(("" if words[1] == "none" else marks[1], doors))
    return tuple(tongues) if is_book(tuple(tongues)) else None


class TextsCheck(CheckedCase):
    def check_read(self, text):
        """Checks that the text is read, or refused, as the patterns tell."""
        book = book_by_rules(text)
        if book is None:
            self.refused(NoText, read_book, text)
        else:
            self.assertEqual(read_book(text), book, text)
            self.assertEqual(book_text(book), text)


class WrittenTest(TextsCheck):
    def test_written_by_hand(self):
        for book, text in WRITTEN:
            self.assertIs(is_book(book), True, book)
            self.assertEqual(book_text(book), text)

    def test_read_by_hand(self):
        for book, text in WRITTEN:
            self.assertEqual(read_book(text), book)

    def test_what_is_written_is_read_to_the_same(self):
        for book in BOOKS + (WIDEST,):
            self.assertIs(is_book(book), True, book)
            self.assertEqual(read_book(book_text(book)), book)
            self.check_read(book_text(book))

    def test_many_books(self):
        chance = random.Random(19)
        for number in range(500):
            book = random_book(chance, "a\\\n-n0")
            self.assertEqual(read_book(book_text(book)), book)
            self.check_read(book_text(book))

    def test_each_sign_of_a_mark_and_of_an_escape(self):
        for code in range(33, 127):
            sign = chr(code)
            if sign != "%":
                word = "\\\\" if sign == "\\" else sign
                self.assertEqual(book_text(((sign, ()),)), f"escape {word}")
                self.assertEqual(read_book(f"escape {word}"), ((sign, ()),))
                book = (("", ((sign + "x", 0, "y" + sign),)),)
                if is_book(book):
                    self.assertEqual(book_text(book), f"escape none {word}x 0 y{word}")
                    self.assertEqual(read_book(f"escape none {word}x 0 y{word}"), book)

    def test_kinds_of_values(self):
        for book, text in WRITTEN:
            self.assertIs(type(book_text(book)), str)
            self.assertIs(is_book(read_book(text)), True)

    def test_asked_again_the_same_is_told(self):
        for book, text in WRITTEN:
            self.assertEqual(book_text(book), book_text(book))
            self.assertEqual(read_book(text), read_book(text))


class NotSoWrittenTest(TextsCheck):
    def refuse_all(self, *texts):
        for text in texts:
            with self.subTest(text):
                self.assertIsNone(book_by_rules(text))
                self.refused(NoText, read_book, text)

    def test_an_empty_text(self):
        self.refuse_all("", " ", "\n", "\n\n")

    def test_a_blank_too_many(self):
        self.refuse_all(
            " escape none", "escape  none", "escape none ", "escape none  a 0 b", "escape none a  0 b",
            "escape none a 0  b", "escape none a 0 b ", "escape none a 0 b  c 0 d", "escape none \nescape none",
            "escape none\n escape none", "escape ", "escape  ",
        )

    def test_a_blank_too_few(self):
        self.refuse_all(
            "escapenone", "escape nonea 0 b", "escape none a0 b", "escape none a 0b", "escape none a 0 bc 0 d")

    def test_a_line_too_many(self):
        self.refuse_all(
            "\nescape none", "escape none\n", "escape none\n\nescape none", "escape none\n\n",
            "escape none\r\nescape none", "escape none\rescape none", "escape none\fescape none",
            "escape none\u2028escape none",
        )

    def test_a_tab_in_the_place_of_a_blank(self):
        self.refuse_all("escape\tnone", "escape none\ta 0 b", "escape none a\t0 b", "escape none\t", "escape\u00a0none")

    def test_a_word_too_few(self):
        self.refuse_all(
            "escape", "none", "escape a 0 b", "escape none a", "escape none a 0", "escape none 0 b", "escape none a b",
            "escape none a 0 b c", "escape none a 0 b c 0", "escape none\nescape", "a 0 b",
        )

    def test_a_word_too_many(self):
        self.refuse_all(
            "escape none none", "escape escape none", "escape none a 0 b 0", "escape none a 0 b 0 0",
            "escape \\\\ \\\\", "escape none a 0 0 b",
        )

    def test_another_word(self):
        self.refuse_all("Escape none", "ESCAPE none", "escapes none", "escap none", "escape None", "escape nones",
                        "escape non", "none none", "0 none", "escape none\nescaped none")

    def test_numbers_that_are_not_so_written(self):
        for word in ("00", "01", "+0", "-0", "+1", "-1", "0.", "0x0", "0_0", "1_0", "a", "o", "\u0660", "\u00b2",
                     "\uff10", "\\0", "", "-", "none", "True"):
            self.refuse_all(f"escape none a {word} b")

    def test_numbers_of_tongues_that_there_are_not(self):
        for word in ("1", "5", "6", "10", "999999999", "9999999999", "1" * 40, "1" * 1900):
            self.refuse_all(f"escape none a {word} b")
        # More figures than Python itself would read.
        self.refused(NoText, read_book, "escape none a " + "1" * 5000 + " b")
        self.refuse_all("escape none a 2 b\nescape none")

    def test_signs_that_are_to_be_written_otherwise(self):
        self.refuse_all(
            "escape none a\nb 0 c", "escape none \n 0 c", "escape none a 0 \n", "escape none a 0 b\n", "escape \\",
            "escape none a 0 b\\", "escape none \\ 0 b", "escape none a\\b 0 c", "escape \\\\\\",
        )

    def test_a_backslash_ahead_of_another_sign_or_at_the_end(self):
        for word in ("\\", "\\a", "\\-", "\\t", "\\N", "\\S", "\\0", "\\ ", "\\x41", "a\\", "\\\\\\", "\\n\\",
                     "\\\\\\a", '\\"', "\\'", "\\e", "\\_"):
            self.refuse_all(f"escape none {word} 0 z", f"escape none z 0 {word}", f"escape {word}")

    def test_blanks_in_marks_and_escapes(self):
        self.refuse_all("escape \\s", "escape none \\s 0 a", "escape none a 0 b\\s", "escape none a\\sb 0 c")

    def test_escapes_that_are_none(self):
        self.refuse_all(
            "escape \\n", "escape ab", "escape \\\\\\\\", "escape --", "escape \\-", "escape nn", "escape %")

    def test_percent_signs_and_what_is_no_sign(self):
        for sign in ("%", "\t", "\u00e9", "\u0000", "\u007f", "\ud800", "\U0001f600"):
            self.refuse_all(
                sign, f"escape {sign}", f"escape none {sign} 0 a", f"escape none a 0 {sign}",
                f"escape none a{sign} 0 b", f"escape none a {sign} b", f"escape none{sign}", f"{sign}escape none",
            )


class NoBookTest(TextsCheck):
    def refuse_written(self, *tongues):
        """Checks that what is well written, but of no book, is refused."""
        self.assertIs(is_book(tongues), False)
        self.refused(NoText, read_book, book_text(tongues))

    def test_one_open_twice(self):
        self.refuse_written(("", (("a", 0, "b"), ("a", 0, "c"))))
        self.refused(NoText, read_book, "escape none a 0 b a 0 c")

    def test_an_escape_in_a_mark(self):
        self.refuse_written(("a", (("a", 0, "b"),)))
        self.refuse_written(("a", ()), ("", (("x", 0, "ya"),)))
        self.refused(NoText, read_book, "escape a xa 0 b")
        self.refused(NoText, read_book, "escape \\\\ \\\\ 0 b")

    def test_an_open_that_begins_with_a_close_of_its_tongue(self):
        self.refuse_written(("", (("ab", 0, "a"),)))
        self.refuse_written(("", (("<", 1, ">"),)), ("", ((">>", 0, "x"),)))
        self.refused(NoText, read_book, "escape none < 1 >\nescape none > 0 x")

    def test_seven_tongues(self):
        self.refuse_written(*[("", ())] * 7)
        self.refused(NoText, read_book, "\n".join(["escape none"] * 7))
        self.assertEqual(len(read_book("\n".join(["escape none"] * 6))), 6)
        self.refused(NoText, read_book, "\n".join(["escape none"] * 150))

    def test_seven_doors(self):
        doors = [(sign, 0, "!") for sign in "abcdefg"]
        self.refuse_written(("", tuple(doors)))
        self.assertEqual(len(read_book(book_text((("", tuple(doors[:6])),)))[0][1]), 6)

    def test_an_inner_that_there_is_not(self):
        self.refuse_written(("", (("a", 1, "b"),)))
        self.refuse_written(("", (("a", -1, "b"),)))
        self.refuse_written(("", (("a", 2, "b"),)), ("", ()))

    def test_marks_of_five_signs_and_of_none(self):
        self.refuse_written(("", (("abcde", 0, "z"),)))
        self.refuse_written(("", (("a", 0, "\n\n\n\n\n"),)))
        self.refuse_written(("", (("", 0, "z"),)))
        self.refused(NoText, read_book, "escape none abcde 0 z")
        self.assertEqual(read_book("escape none \\n\\n\\n\\n 0 \\\\\\\\\\\\\\\\"), (("", (("\n" * 4, 0, "\\" * 4),)),))


class AnythingTest(TextsCheck):
    def test_things_that_are_no_texts(self):
        for thing in NO_TEXTS + [b"escape none", WORDS, list(WORDS)]:
            self.refused(NoText, read_book, thing)

    def test_texts_that_are_nearly_written(self):
        for book, text in WRITTEN[:11]:
            for at in range(len(text) + 1):
                self.check_read(text[:at] + text[at + 1:])
                self.check_read(text[:at])
                for sign in " \n\\0a-%n":
                    self.check_read(text[:at] + sign + text[at:])
                    self.check_read(text[:at] + sign + text[at + 1:])

    def test_texts_by_chance(self):
        chance = random.Random(20)
        words = ("escape", "none", " ", " ", "\n", "0", "1", "a", "b", "\\", "n", "s", "-", "escape none", " a 0 b")
        for number in range(20000):
            self.check_read("".join(chance.choice(words) for word in range(chance.randint(1, 9))))

    def test_2000_signs(self):
        for text in ("a" * 2000, "\n" * 2000, " " * 2000, "\\" * 2000, "escape none" + " a 0 b" * 331, "escape " * 285):
            self.refused(NoText, read_book, text)


if __name__ == "__main__":
    unittest.main()
