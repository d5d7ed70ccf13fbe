"""[19], and what [2] says of desks: rows, their answers, and what is refused."""

import random
import re
import unittest

from tests.samples import AGAINST, BOOKS, FORKED, NO_TEXTS, WORDS, CheckedCase, TimedCase, told_by_rules
from tests.test_forks import forks_by_rules
from tests.test_pages import anew_by_rules
from tonguenest.desk import Desk
from tonguenest.errors import NestError, NoDoor, NoPlace, NoRow, NoText, Nothing, NoTongue, NoWay, TooMany
from tonguenest.pages import Page
from tonguenest.putting import put_in
from tonguenest.texts import book_text

WORDS_TEXT = 'escape none " 1 " (* 2 *) { 0 }\nescape \\\\ ${ 0 }\nescape none (* 2 *)'
BARE_TEXT = "escape none"

SIGN = r"(?:[!-$&-\[\]-~]|\\[sn\\])"
KINDS = {"NUMBER": r"(0|[1-9][0-9]{0,8})", "TEXT": rf"(-|\\-|(?!-\Z){SIGN}+)"}
FORMS = (
    "change NUMBER NUMBER TEXT", "back", "text", "at NUMBER", "open", "forks", "own NUMBER", "put NUMBER NUMBER TEXT",
)


def pattern_of(form):
    return " ".join(KINDS.get(word, word) for word in form.split(" "))


PATTERNS = [pattern_of(form) for form in FORMS]


def written(text):
    """A text as one word, sign by sign."""
    if text in ("", "-"):
        return {"": "-", "-": "\\-"}[text]
    return "".join({" ": "\\s", "\n": "\\n", "\\": "\\\\"}.get(sign, sign) for sign in text)


def text_by_rules(word):
    if word in ("-", "\\-"):
        return word[1:]
    return re.sub(r"\\(.)", lambda found: {"s": " ", "n": "\n"}.get(found[1], found[1]), word)


def row_by_rules(row):
    """The words of a row, or None, by patterns."""
    if any(re.fullmatch(pattern, row) for pattern in PATTERNS):
        return row.split(" ")
    return None


class PlainDesk:
    """A desk that is told words, and keeps its texts one behind the other."""

    def __init__(self, book):
        self.book = book
        self.texts = [""]

    def answer(self, words):
        text = self.texts[-1]
        numbers = [int(word) for word in words[1:3] if word.isdigit()]
        if words[0] == "change":
            return self.change(text, numbers[0], numbers[1], text_by_rules(words[3]))
        if words[0] == "back":
            if len(self.texts) == 1:
                return Nothing
            self.texts.pop()
            return "ok"
        if words[0] == "text":
            return written(text)
        if words[0] == "at":
            return self.at(text, numbers[0])
        if words[0] == "open":
            ends = told_by_rules(self.book, text)[1]
            return " ".join(f"{end[0]}:{end[1]}" for end in ends) or "none"
        if words[0] == "forks":
            return " ".join(str(fork[0]) for fork in forks_by_rules(self.book, text)) or "none"
        if words[0] == "own":
            return self.own(text, numbers[0])
        try:
            return written(put_in(self.book, numbers[0], numbers[1], text_by_rules(words[3])))
        except (NoDoor, NoWay) as refusal:
            return type(refusal)

    def change(self, text, begin, end, put):
        if not 0 <= begin <= end <= len(text):
            return NoPlace
        if len(text) - (end - begin) + len(put) > 2000:
            return TooMany
        self.texts.append(text[:begin] + put + text[end:])
        first, last = anew_by_rules(self.book, text, begin, end, put)
        return f"{first} {last}"

    def at(self, text, place):
        for begin, many, word, tongue, depth in told_by_rules(self.book, text)[0]:
            if begin <= place < begin + many:
                return f"{tongue} {depth}"
        return NoPlace

    def own(self, text, tongue):
        if tongue >= len(self.book):
            return NoTongue
        told = told_by_rules(self.book, text)[0]
        return written("".join(text[step[0] + step[1] - 1] for step in told
                               if step[3] == tongue and step[2] in ("sign", "escape")))


class DeskCheck(CheckedCase):
    def check_rows(self, desk, *rows):
        """Checks the answers of rows, told one behind the other, each as (row, answer or refusal)."""
        for row, answer in rows:
            self.check_row(desk, row, answer)

    def check_row(self, desk, row, answer):
        if isinstance(answer, str):
            told = desk.say(row)
            self.assertIs(type(told), str)
            self.assertEqual(told, answer, row)
        else:
            self.refused(answer, desk.say, row)

    def desk_of(self, text):
        """A desk of words whose page has this text."""
        desk = Desk(WORDS_TEXT)
        desk.say(f"change 0 0 {written(text)}")
        return desk


class NewDeskTest(DeskCheck):
    def test_it_is_without_signs(self):
        for book in BOOKS:
            desk = Desk(book_text(book))
            self.check_rows(
                desk, ("text", "-"), ("open", "none"), ("forks", "none"), ("own 0", "-"), ("at 0", NoPlace),
                ("back", Nothing))

    def test_a_text_that_is_no_books(self):
        for text in ("", "escape", "escape none ", "escape none\n", "escape  none", "escape %", "escape none a 1 b",
                     "escape none a 0 b a 0 c", "escape none ab 0 a", "escape a a 0 b", "none", "text"):
            self.refused(NoText, Desk, text)

    def test_things_that_are_no_texts(self):
        for thing in NO_TEXTS + [WORDS, list(WORDS)]:
            self.refused(NoText, Desk, thing)


class ChangeTest(DeskCheck):
    def test_the_two_numbers_that_are_told_of_it(self):
        self.check_rows(
            Desk(WORDS_TEXT), ("change 0 0 abc", "0 3"), ("change 1 2 X", "1 2"), ("change 1 1 -", "1 1"),
            ("text", "aXc"), ('change 0 0 "', "0 4"), ("text", '"aXc'), ("change 1 4 -", "1 1"), ("text", '"'))

    def test_as_the_page_tells(self):
        for book in BOOKS:
            desk, page = Desk(book_text(book)), Page(book, "")
            for begin, end, text in ((0, 0, "<a<<b>>"), (1, 2, "(*"), (0, 3, ""), (2, 2, " - \n\\"), (0, 1, '"')):
                first, last = page.change(begin, end, text)
                self.check_row(desk, f"change {begin} {end} {written(text)}", f"{first} {last}")
                self.check_row(desk, "text", written(page.text()))

    def test_texts_with_blanks_line_ends_and_backslashes(self):
        self.check_rows(
            Desk(BARE_TEXT), ("change 0 0 a\\sb\\nc\\\\d", "0 7"), ("text", "a\\sb\\nc\\\\d"), ("at 6", "0 0"),
            ("at 7", NoPlace), ("change 0 7 \\s", "0 1"), ("text", "\\s"), ("change 0 1 \\\\n\\\\s\\\\\\\\", "0 6"),
            ("text", "\\\\n\\\\s\\\\\\\\"), ("own 0", "\\\\n\\\\s\\\\\\\\"), ("change 0 6 \\n", "0 1"), ("text", "\\n"))

    def test_a_text_of_no_signs_and_a_single_dash(self):
        self.check_rows(
            Desk(BARE_TEXT), ("change 0 0 -", "0 0"), ("text", "-"), ("at 0", NoPlace), ("change 0 0 \\-", "0 1"),
            ("text", "\\-"), ("at 0", "0 0"), ("own 0", "\\-"), ("change 1 1 --", "1 3"), ("text", "---"),
            ("change 0 1 -", "0 0"), ("text", "--"), ("change 1 2 -", "1 1"), ("text", "\\-"), ("change 1 1 a", "1 2"),
            ("text", "-a"), ("change 0 2 -a-", "0 3"), ("text", "-a-"))

    def test_no_place(self):
        desk = self.desk_of("abc")
        for begin, end in ((0, 4), (4, 4), (2, 1), (3, 2), (999999999, 999999999), (0, 999999999), (999999999, 0)):
            self.check_row(desk, f"change {begin} {end} x", NoPlace)
        self.check_row(desk, "text", "abc")

    def test_too_many(self):
        desk = Desk(BARE_TEXT)
        self.check_rows(
            desk, ("change 0 0 " + "a" * 1900, "0 1900"), ("change 5 5 " + "b" * 101, TooMany),
            ("change 1901 1901 " + "b" * 101, NoPlace), ("change 1900 1900 " + "\\s" * 101, TooMany),
            ("text", "a" * 1900), ("change 5 5 " + "b" * 100, "5 105"), ("change 0 0 c", TooMany),
            ("change 0 1 c", "0 1"), ("text", "c" + "a" * 4 + "b" * 100 + "a" * 1895))

    def test_a_full_page_of_signs_that_are_written_as_two(self):
        desk = Desk(BARE_TEXT)
        for number in range(4):
            desk.say("change 0 0 " + "\\s" * 500)
        self.check_rows(desk, ("text", "\\s" * 2000), ("own 0", "\\s" * 2000), ("change 9 9 \\s", TooMany))


class BackTest(DeskCheck):
    def test_one_by_one(self):
        self.check_rows(
            Desk(WORDS_TEXT), ("back", Nothing), ("change 0 0 ab", "0 2"), ("change 1 1 X", "1 2"), ("back", "ok"),
            ("text", "ab"), ("back", "ok"), ("text", "-"), ("back", Nothing), ("text", "-"))

    def test_changes_that_change_nothing_are_changes(self):
        self.check_rows(
            Desk(WORDS_TEXT), ("change 0 0 -", "0 0"), ("change 0 0 a", "0 1"), ("change 0 1 a", "0 1"),
            ("back", "ok"), ("text", "a"), ("back", "ok"), ("text", "-"), ("back", "ok"), ("back", Nothing))

    def test_300_changes(self):
        desk = Desk(BARE_TEXT)
        for number in range(300):
            self.check_row(desk, f"change {number} {number} x", f"{number} {number + 1}")
        for number in reversed(range(300)):
            self.check_row(desk, "back", "ok")
            self.check_row(desk, "text", written("x" * number))
        self.check_row(desk, "back", Nothing)


class AtTest(DeskCheck):
    def test_tongues_and_depths(self):
        desk = self.desk_of('a"b${c}"(*')
        told = ("0 0", "0 0", "1 1", "1 1", "1 1", "0 2", "1 1", "0 0", "0 0", "0 0")
        for place, answer in enumerate(told):
            self.check_row(desk, f"at {place}", answer)

    def test_escapes_and_cuts(self):
        desk = self.desk_of('"\\"\\')
        self.check_rows(desk, ("at 0", "0 0"), ("at 1", "1 1"), ("at 2", "1 1"), ("at 3", "1 1"), ("at 4", NoPlace))

    def test_no_place(self):
        desk = self.desk_of("abc")
        for place in (3, 4, 2000, 999999999):
            self.check_row(desk, f"at {place}", NoPlace)

    def test_a_deep_place(self):
        self.check_row(self.desk_of("{" * 900), "at 899", "0 899")


class OpenTest(DeskCheck):
    def test_none(self):
        for text in ("", "a", '""', "(*(**)*)", "{}"):
            self.check_row(self.desk_of(text), "open", "none")

    def test_doors_and_a_cut(self):
        self.check_row(self.desk_of('a"'), "open", "1:1")
        self.check_row(self.desk_of('a"b${c(*'), "open", "1:1 3:0 6:2")
        self.check_row(self.desk_of('"\\'), "open", "0:1 1:1")
        self.check_row(self.desk_of('"${"\\'), "open", "0:1 1:0 3:1 4:1")

    def test_a_cut_alone(self):
        desk = Desk("escape \\\\")
        desk.say("change 0 0 a\\\\")
        self.check_row(desk, "open", "1:0")


class ForksTest(DeskCheck):
    def test_places(self):
        for book, text, answer in (
            (FORKED, "<<a>>", "0 3"), (FORKED, "<<", "0"), (FORKED, "<a", "none"), (FORKED, "", "none"),
            (AGAINST, "<>>", "1"), (FORKED, "a<<a>>.<<", "1 4 7"),
        ):
            desk = Desk(book_text(book))
            desk.say(f"change 0 0 {written(text)}")
            self.check_row(desk, "forks", answer)


class OwnTest(DeskCheck):
    def test_each_tongue(self):
        desk = self.desk_of('a"b\\" c\\\\"(*-*)-\n')
        self.check_rows(
            desk, ("own 0", "a-\\n"), ("own 1", 'b"\\sc\\\\'), ("own 2", "\\-"), ("own 3", NoTongue),
            ("own 999999999", NoTongue), ("own 6", NoTongue))

    def test_a_tongue_that_does_not_occur(self):
        self.check_rows(self.desk_of("abc"), ("own 1", "-"), ("own 2", "-"))


class PutTest(DeskCheck):
    def test_texts(self):
        self.check_rows(
            Desk(WORDS_TEXT), ("put 0 0 -", "-"), ("put 0 0 \\-", "\\-"), ("put 0 0 ab", "ab"),
            ('put 0 0 a"', 'a\\\\"'),
            ("put 0 0 \\\\", "\\\\\\\\"), ("put 0 0 a\\sb\\n", "a\\sb\\n"), ("put 0 1 a", "a"), ("put 2 0 )", ")"),
            ("put 0 2 a", "a"))

    def test_refusals(self):
        self.check_rows(
            Desk(WORDS_TEXT), ("put 0 1 *)", NoWay), ("put 0 1 (", NoWay), ("put 0 3 a", NoDoor), ("put 1 1 a", NoDoor),
            ("put 3 0 a", NoDoor), ("put 999999999 0 a", NoDoor), ("put 0 999999999 a", NoDoor), ("put 2 1 *)", NoDoor),
            ("put 3 0 -", NoDoor))

    def test_the_page_is_as_before(self):
        desk = self.desk_of("abc")
        self.check_rows(desk, ("put 0 0 x", "x"), ("text", "abc"), ("back", "ok"), ("text", "-"), ("back", Nothing))


class NoRowTest(DeskCheck):
    def refuse_all(self, *rows):
        desk = self.desk_of('a"b')
        for row in rows:
            with self.subTest(row):
                self.assertIsNone(row_by_rules(row))
                self.check_row(desk, row, NoRow)
        self.check_rows(desk, ("text", 'a"b'), ("back", "ok"), ("back", Nothing))

    def test_no_words(self):
        self.refuse_all("", " ", "  ", "\n", "-", "\\-")

    def test_a_blank_too_many(self):
        for row in ("change 0 0 a", "back", "text", "at 0", "open", "forks", "own 0", "put 0 0 a"):
            self.refuse_all(" " + row, row + " ")
            for at, sign in enumerate(row):
                if sign == " ":
                    self.refuse_all(row[:at] + " " + row[at:])

    def test_another_gap_than_a_blank(self):
        self.refuse_all("at\t0", "at\n0", "own\u00a00", "text\n", "text\t", "\ntext", "back\r", "change 0\n0 a",
                        "text\ntext")

    def test_a_word_too_few(self):
        self.refuse_all("change", "change 0", "change 0 0", "change 0 a", "at", "own", "put", "put 0", "put 0 0",
                        "put 0 a")

    def test_a_word_too_many(self):
        self.refuse_all(
            "change 0 0 a b", "change 0 0 0 a", "change 0 0 a -", "back 0", "back back", "text text", "text -",
            "at 0 0", "open 0", "open none", "forks 0", "own 0 0", "own 0 -", "put 0 0 a b", "put 0 0 a -",
        )

    def test_another_word(self):
        self.refuse_all(
            "Text", "TEXT", "texts", "tex", "close", "undo", "fork", "none", "ok", "At 0", "put_in 0 0 a", "steps",
            "say text", "changes 0 0 a", "0 0 a", "0", "own_steps 0", "ba ck",
        )

    def test_numbers_that_are_not_so_written(self):
        for word in ("00", "01", "007", "000000001", "+0", "-0", "+1", "-1", "0.", "1.0", "1e1", "0x0", "1_0", "a", "",
                     "\u0660", "\u00b2", "\uff11", "1\n", "\n1", "\\1", "-", "True", "None", "nought"):
            self.refuse_all(
                f"change {word} 0 a", f"change 0 {word} a", f"at {word}", f"own {word}", f"put {word} 0 a",
                f"put 0 {word} a")

    def test_numbers_of_ten_figures(self):
        for word in ("1000000000", "9999999999", "0000000001", "1" * 40, "1" * 1900):
            self.refuse_all(
                f"change {word} 0 a", f"change 0 {word} a", f"at {word}", f"own {word}", f"put {word} 0 a",
                f"put 0 {word} a")
        # More figures than Python itself would read.
        self.refused(NoRow, Desk(BARE_TEXT).say, "at " + "1" * 5000)

    def test_numbers_of_nine_figures(self):
        desk = self.desk_of("abc")
        for word in ("100000000", "999999999"):
            self.check_rows(
                desk, (f"change {word} 0 a", NoPlace), (f"change 0 {word} a", NoPlace), (f"at {word}", NoPlace),
                (f"own {word}", NoTongue), (f"put {word} 0 a", NoDoor), (f"put 0 {word} a", NoDoor))

    def test_texts_that_are_not_so_written(self):
        for word in ("", "\\", "\\a", "\\t", "\\N", "\\S", "a\\", "\\\\\\", "\\-\\-", "\\--", "-\\-", "a\\-", "\\-a",
                     "\\ ", "\n", "a\nb", "a\n", "\na", "%", "a%b", "\t", "\u00e9", "\u0000", "\u007f", "\ud800", "-\n",
                     "\\-\n", "\\x41", '\\"'):
            self.refuse_all(f"change 0 0 {word}", f"put 0 0 {word}")

    def test_things_that_are_no_texts(self):
        desk = self.desk_of('a"b')
        for thing in NO_TEXTS + [b"text", ["text"], ("change", 0, 0, "a")]:
            self.check_row(desk, thing, NoRow)
        self.check_row(desk, "text", 'a"b')

    def test_ahead_of_all_else(self):
        desk = self.desk_of("abc")
        self.check_rows(
            desk, ("change 9 9 \\", NoRow), ("change 9 9 a", NoPlace), ("change 2 1 %", NoRow),
            ("change 2 1 a b", NoRow), ("put 9 9 \\", NoRow), ("put 9 9 a", NoDoor), ("put 0 1 *)\\", NoRow),
            ("put 0 1 *)", NoWay), ("put 9 9", NoRow), ("own 9 9", NoRow), ("own 9", NoTongue),
            ("at 9 ", NoRow), ("at 9", NoPlace), ("change 0 0 " + "a" * 1998 + "%", NoRow),
            ("change 0 0 " + "a" * 1998, TooMany))
        self.check_row(Desk(BARE_TEXT), "back ", NoRow)
        self.check_row(Desk(BARE_TEXT), "back", Nothing)

    def test_no_place_ahead_of_too_many(self):
        self.check_row(self.desk_of("abc"), "change 4 4 " + "a" * 1998, NoPlace)


class SessionsTest(TimedCase, DeskCheck):
    def test_what_is_refused_changes_nothing(self):
        desk = self.desk_of('a"b')
        asked = ("text", "open", "forks", "own 0", "own 1", "at 2")
        before = [desk.say(row) for row in asked]
        for row in ("change 9 9 a", "change 0 0 " + "a" * 1998, "own 9", "put 9 0 a", "put 0 1 (*", "at 9", "chang", 7):
            with self.assertRaises(NestError):
                desk.say(row)
            self.assertEqual([desk.say(row) for row in asked], before)
        self.check_rows(desk, ("back", "ok"), ("back", Nothing), ("text", "-"))

    def test_what_is_asked_changes_nothing(self):
        desk = self.desk_of('a"b${(*c')
        asked = ("text", "open", "forks", "own 0", "own 1", "own 2", "at 2", "put 0 0 a", "at 7")
        before = [desk.say(row) for row in asked]
        self.assertEqual([desk.say(row) for row in reversed(asked)], before[::-1])
        self.assertEqual([desk.say(row) for row in asked], before)

    def test_two_desks_know_nothing_of_one_another(self):
        one, other = Desk(WORDS_TEXT), Desk(WORDS_TEXT)
        self.check_rows(one, ('change 0 0 "a', "0 2"))
        self.check_rows(other, ("text", "-"), ("open", "none"), ("back", Nothing), ("change 0 0 b", "0 1"))
        self.check_rows(one, ("text", '"a'), ("open", "0:1"), ("back", "ok"), ("text", "-"))
        self.check_rows(other, ("text", "b"), ("back", "ok"), ("back", Nothing))

    def test_desks_of_other_books(self):
        one, other = Desk(WORDS_TEXT), Desk("escape \\\\")
        for desk in (one, other):
            desk.say('change 0 0 "\\\\a')
        self.check_rows(one, ("open", "0:1"), ("own 1", "a"), ("at 2", "1 1"))
        self.check_rows(other, ("open", "none"), ("own 0", '"a'), ("own 1", NoTongue), ("at 2", "0 0"))

    def test_rows_that_are_nearly_written(self):
        for row in ("change 0 0 a", "change 1 2 \\-", "back", "text", "at 10", "open", "forks", "own 0", "put 0 0 -"):
            for at in range(len(row) + 1):
                self.check_nearly(row[:at] + row[at + 1:])
                self.check_nearly(row[:at])
                for sign in " \n\\0a-%+s":
                    self.check_nearly(row[:at] + sign + row[at:])
                    self.check_nearly(row[:at] + sign + row[at + 1:])

    def check_nearly(self, row):
        desk = self.desk_of("ab(*")
        plain = PlainDesk(WORDS)
        plain.texts.append("ab(*")
        words = row_by_rules(row)
        self.check_row(desk, row, NoRow if words is None else plain.answer(words))
        self.check_row(desk, "text", written(plain.texts[-1]))

    def test_rows_by_chance(self):
        chance = random.Random(21)
        for book in BOOKS:
            desk, plain = Desk(book_text(book)), PlainDesk(book)
            for number in range(150):
                row = self.row_by_chance(chance, len(plain.texts[-1]))
                self.check_row(desk, row, plain.answer(row_by_rules(row)))

    def row_by_chance(self, chance, many):
        signs = "".join(sign for book in BOOKS for escape, doors in book for door in doors for sign in escape + door[0])
        form = chance.choice(FORMS + FORMS[:1] * 6)
        text = "".join(chance.choice(signs + "a- \n\\") for sign in range(chance.randint(0, 5)))
        places = sorted(chance.randint(0, min(many, 4) + (form[0] == "a")) for number in range(2))
        words = [str(places.pop(0)) if word == "NUMBER" else word for word in form.split(" ")]
        return " ".join(written(text) if word == "TEXT" else word for word in words)


if __name__ == "__main__":
    unittest.main()
