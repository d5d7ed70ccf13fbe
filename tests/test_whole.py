"""[2] and [3], over the whole program: what its modules tell of the same texts fits together."""

import os
import pathlib
import random
import subprocess
import sys
import unittest

from tests.samples import BOOKS, NO_TEXTS, SIGNS, WORDS, CheckedCase, doors_of, long_text, random_book
from tonguenest import errors
from tonguenest.books import is_book
from tonguenest.desk import Desk
from tonguenest.forks import forks, free_readings
from tonguenest.owns import led_back, own
from tonguenest.pages import Page
from tonguenest.putting import fewest_escapes, put_in
from tonguenest.readers import Reader
from tonguenest.reading import standing, steps, tongues, unfinished
from tonguenest.texts import book_text, read_book

FAR = 10 ** 39
WORDS_TEXT = 'escape none " 1 " (* 2 *) { 0 }\nescape \\\\ ${ 0 }\nescape none (* 2 *)'

# What each function and method refuses, and with which class of tonguenest/errors.py.
REFUSALS = (
    ("NoPlace", lambda: Page(WORDS, "abc").change(0, 4, "")),
    ("NoPlace", lambda: Page(WORDS, "abc").change(-FAR, FAR, "a" * 2000)),
    ("NoPlace", lambda: Page(WORDS, "abc").standing_at(4)),
    ("NoPlace", lambda: led_back(WORDS, "abc", 0, 0, 4)),
    ("NoPlace", lambda: Desk(WORDS_TEXT).say("at 0")),
    ("NoPlace", lambda: Desk(WORDS_TEXT).say("change 0 1 a")),
    ("TooMany", lambda: Page(WORDS, "abc").change(0, 0, "a" * 1998)),
    ("TooMany", lambda: Desk(WORDS_TEXT).say("change 0 0 " + "a" * 2001)),
    ("Nothing", lambda: Page(WORDS, "abc").take_back()),
    ("Nothing", lambda: Desk(WORDS_TEXT).say("back")),
    ("NoDoor", lambda: put_in(WORDS, 0, 3, "(*")),
    ("NoDoor", lambda: fewest_escapes(WORDS, 3, 0, "(*")),
    ("NoDoor", lambda: Desk(WORDS_TEXT).say("put 1 1 (*")),
    ("NoWay", lambda: put_in(WORDS, 0, 1, "(*")),
    ("NoWay", lambda: fewest_escapes(WORDS, 0, 1, "(*")),
    ("NoWay", lambda: Desk(WORDS_TEXT).say("put 0 1 (*")),
    ("NoTongue", lambda: own(WORDS, "abc", 3)),
    ("NoTongue", lambda: led_back(WORDS, "abc", 3, -1, FAR)),
    ("NoTongue", lambda: Desk(WORDS_TEXT).say("own 3")),
    ("NoText", lambda: read_book("escape")),
    ("NoText", lambda: read_book(None)),
    ("NoText", lambda: Desk("escape")),
    ("NoText", lambda: Desk(WORDS)),
    ("NoRow", lambda: Desk(WORDS_TEXT).say("own")),
    ("NoRow", lambda: Desk(WORDS_TEXT).say(0)),
)

# Tells much of some texts, in a Python of its own.
TELLING = """
from tests.samples import SIGNS, long_text
from tests.test_whole import told_of
for book, signs in SIGNS:
    print(told_of(book, long_text(signs, 50)))
"""


def put_or_none(book, tongue, number, text):
    try:
        return put_in(book, tongue, number, text), fewest_escapes(book, tongue, number, text)
    except errors.NoWay:
        return None


def told_of(book, text):
    """All that the program tells of a text, and of a page and a desk that have it."""
    reader = Reader(book)
    page = Page(book, text)
    desk = Desk(book_text(book))
    return (
        is_book(book), steps(book, text), tongues(book, text), standing(book, text), unfinished(book, text),
        reader.feed(text), reader.held(), reader.standing(), reader.finish(), page.change(1, 3, text), page.steps(),
        [page.standing_at(place) for place in range(len(text))], forks(book, text), free_readings(book, text[:60]),
        [put_or_none(book, tongue, number, text) for tongue, number in doors_of(book)],
        [own(book, text, tongue) for tongue in range(len(book))],
        [led_back(book, text, tongue, 0, len(own(book, text, tongue)[0])) for tongue in range(len(book))],
        book_text(book), read_book(book_text(book)),
        desk.say("change 0 0 " + text.replace("\\", "\\\\").replace(" ", "\\s").replace("\n", "\\n")),
        [desk.say(row) for row in ("text", "at 1", "open", "forks", "own 0", "back", "text")],
    )


def lists_in(thing):
    """All lists that a told thing is made of, the innermost ones first."""
    found = []
    if isinstance(thing, (list, tuple)):
        for part in thing:
            found += lists_in(part)
    return found + [thing] if isinstance(thing, list) else found


def parts_in(thing):
    """All that a told thing is made of, but lists and tuples."""
    if isinstance(thing, (list, tuple)):
        return [part for inner in thing for part in parts_in(inner)]
    return [thing]


def ways_to(book):
    """By a tongue, a text of opens behind which it stands, for all that are reached from tongue 0."""
    ways = {0: ""}
    for turn in book:
        for tongue in list(ways):
            for opening, inner, close in book[tongue][1]:
                ways.setdefault(inner, ways[tongue] + opening)
    return ways


class RefusalsTest(CheckedCase):
    def test_each_is_of_the_class_that_is_named(self):
        for name, asked in REFUSALS:
            with self.subTest(name):
                self.refused(getattr(errors, name), asked)

    def test_each_class_is_raised_alone(self):
        for name, asked in REFUSALS:
            try:
                asked()
            except errors.NestError as refusal:
                found = [other for other in vars(errors) if other != "NestError"
                         and isinstance(getattr(errors, other), type) and isinstance(refusal, getattr(errors, other))]
                self.assertEqual(found, [name])

    def test_all_classes_are_raised(self):
        named = {name for name, thing in vars(errors).items() if isinstance(thing, type)}
        self.assertEqual({name for name, asked in REFUSALS} | {"NestError"}, named)


class AskersOwnTest(unittest.TestCase):
    def test_what_is_done_to_told_lists_changes_nothing(self):
        for book, signs in SIGNS:
            text = long_text(signs, 40)
            kept = told_of(book, text)
            told = told_of(book, text)
            self.assertEqual(told, kept)
            for one in lists_in(told):
                one.clear()
                one.append("mine")
            self.assertEqual(told_of(book, text), kept)

    def test_told_lists_are_each_a_new_one(self):
        for book, signs in SIGNS:
            text = long_text(signs, 40)
            found = lists_in(told_of(book, text)) + lists_in(told_of(book, text))
            self.assertEqual(len({id(one) for one in found}), len(found))

    def test_a_page_keeps_to_itself_what_it_has_told(self):
        page = Page(WORDS, 'a"b')
        page.steps().clear()
        page.steps().append("mine")
        self.assertEqual(page.steps(), steps(WORDS, 'a"b'))
        self.assertEqual(page.change(3, 3, '"c'), (3, 5))
        self.assertEqual(page.steps(), steps(WORDS, 'a"b"c'))

    def test_a_reader_keeps_to_itself_what_it_has_told(self):
        reader = Reader(WORDS)
        reader.feed('a"').clear()
        self.assertEqual(reader.feed("b"), [(2, 1, "sign", 1, 1)])
        self.assertEqual(reader.standing(), ((1, '"'),))

    def test_no_number_that_is_told_is_a_truth(self):
        for book, signs in SIGNS:
            told = told_of(book, long_text(signs, 40))[1:]
            self.assertEqual({part.__class__ for part in parts_in(told)} - {int, str, None.__class__}, set())

    def test_nothing_hangs_on_chance(self):
        folder = pathlib.Path(__file__).resolve().parent.parent
        told = [
            subprocess.run(
                [sys.executable, "-c", TELLING], cwd=folder, env=dict(os.environ, PYTHONHASHSEED=seed), check=True,
                capture_output=True, timeout=300,
            ).stdout
            for seed in ("1", "2", "3")
        ]
        self.assertNotEqual(told[0], b"")
        self.assertEqual(told, [told[0]] * 3)

    def test_of_anything_it_is_told_or_refused(self):
        desk = Desk(WORDS_TEXT)
        for thing in NO_TEXTS + ["", "a", "%", "a" * 2000, "\n" * 2000, " " * 2000, "\\" * 2000]:
            self.assertIs(is_book(thing), False)
            for kind, asked in ((errors.NoText, read_book), (errors.NoText, Desk), (errors.NoRow, desk.say)):
                with self.assertRaises(kind):
                    asked(thing)
        self.assertEqual(desk.say("text"), "-")


class FitsTogetherTest(unittest.TestCase):
    def texts_by_chance(self):
        """Books with texts, and with a source of chance."""
        chance = random.Random(22)
        for book, signs in SIGNS:
            for number in range(5):
                yield book, "".join(chance.choice(signs) for sign in range(60)), chance
        for number in range(60):
            yield random_book(chance, "ab<"), "".join(chance.choice("aabb<^@") for sign in range(40)), chance

    def test_each_sign_is_in_just_one_step(self):
        for book, text, chance in self.texts_by_chance():
            told = steps(book, text)
            self.assertEqual([place for step in told for place in range(step[0], step[0] + step[1])],
                             list(range(len(text))))
            self.assertEqual([step[3:] for step in told for sign in range(step[1])], tongues(book, text))

    def test_pieces_and_pages_are_read_the_same(self):
        for book, text, chance in self.texts_by_chance():
            reader, page = Reader(book), Page(book, "")
            told, place = [], 0
            while place < len(text):
                many = chance.randint(1, 9)
                told += reader.feed(text[place:place + many])
                page.change(place, place, text[place:place + many])
                place += many
            self.assertEqual(reader.standing(), standing(book, text[:sum(step[1] for step in told)]))
            self.assertEqual(reader.held(), len(text) - sum(step[1] for step in told))
            self.assertEqual(told + reader.finish(), steps(book, text))
            self.assertEqual((page.text(), page.steps()), (text, steps(book, text)))
            self.assertEqual(page.standing_at(len(text)), standing(book, text))

    def test_what_is_open_at_the_end(self):
        for book, text, chance in self.texts_by_chance():
            ends = unfinished(book, text)
            self.assertEqual(tuple((inner, close) for place, inner, close in ends if close), standing(book, text))
            for place, inner, close in ends:
                self.assertIn((place, "open" if close else "cut"), [(step[0], step[2]) for step in steps(book, text)])

    def test_what_was_taken_back_was_never_done(self):
        for book, text, chance in self.texts_by_chance():
            page, kept = Page(book, text), []
            for number in range(6):
                kept.append((page.text(), page.steps()))
                begin, end = sorted(chance.randint(0, len(page.text())) for place in range(2))
                page.change(begin, end, text[end:begin + 3])
            for before in reversed(kept):
                page.take_back()
                self.assertEqual((page.text(), page.steps()), before)

    def test_a_second_reading_is_told_just_where_there_is_one(self):
        for book, text, chance in self.texts_by_chance():
            told = free_readings(book, text)
            if not unfinished(book, text):
                self.assertIn(told[0], ("one", "two"))
                if not forks(book, text):
                    self.assertEqual(told, ("one", steps(book, text)))

    def test_own_texts_are_where_they_stand(self):
        for book, text, chance in self.texts_by_chance():
            standing_there = {}
            for tongue in range(len(book)):
                signs, places = own(book, text, tongue)
                standing_there.update(zip(places, signs))
                for at, place in enumerate(places):
                    (begin, end), = led_back(book, text, tongue, at, at + 1)
                    self.assertEqual((end - 1, text[place], tongues(book, text)[place][0]), (place, signs[at], tongue))
                    self.assertIn(end - begin, (1, 2))
            plain = [step[0] + step[1] - 1 for step in steps(book, text) if step[2] in ("sign", "escape")]
            self.assertEqual(standing_there, {place: text[place] for place in plain})

    def test_what_is_put_behind_a_door_is_read_there_as_it_is(self):
        found = 0
        for book, text, chance in self.texts_by_chance():
            ways = ways_to(book)
            for tongue, number in doors_of(book):
                put = put_or_none(book, tongue, number, text[:6])
                if put and tongue in ways:
                    found += self.check_there(book, ways[tongue], book[tongue][1][number], put, text)
        self.assertGreater(found, 100)

    def check_there(self, book, way, door, put, text):
        """Checks what is put behind the door and read in a whole text; tells whether the door is open there."""
        opening, inner, close = door
        written, many = put
        ahead = len(way + opening)
        whole = way + opening + written + close + text
        told = steps(book, whole)
        opens = [step for step in told if step[0] < ahead]
        # Opens that go on into what stands behind them are longer ones, of other doors.
        if opens != steps(book, whole[:ahead]) or standing(book, whole[:ahead])[-1:] != ((inner, close),):
            return False
        here = (inner, len(standing(book, whole[:ahead])))
        there = [step for step in told if ahead <= step[0] < ahead + len(written)]
        self.assertEqual({step[2:] for step in there} - {("sign",) + here, ("escape",) + here}, set())
        self.assertEqual("".join(whole[step[0] + step[1] - 1] for step in there), text[:6])
        self.assertEqual([step[2] for step in there].count("escape"), many)
        self.assertEqual(told[len(opens + there)][:3], (ahead + len(written), len(close), "close"))
        return True

    def test_books_are_read_as_they_are_written(self):
        for book, text, chance in self.texts_by_chance():
            self.assertEqual(read_book(book_text(book)), book)
        for book in BOOKS:
            self.assertEqual(told_of(read_book(book_text(book)), "a<(*"), told_of(book, "a<(*"))


if __name__ == "__main__":
    unittest.main()
