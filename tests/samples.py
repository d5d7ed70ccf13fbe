"""Books and texts for the tests, and what is told of them by rules that are written apart from the program."""

import faulthandler
import functools
import itertools
import sys
import unittest

from tonguenest.books import is_book

# No escape and no door.
BARE = (("", ()),)
# An escape and no door.
ESCAPED = (("\\", ()),)
# Words in quotes with gaps that lead back out, and remarks that nest.
WORDS = (
    ("", (('"', 1, '"'), ("(*", 2, "*)"), ("{", 0, "}"))),
    ("\\", (("${", 0, "}"),)),
    ("", (("(*", 2, "*)"),)),
)
# Brackets that lead back to their own tongue.
BRACKETS = (("\\", (("<", 0, ">"),)),)
# Opens that begin with one another, each to a tongue of its own.
LENGTHS = (
    ("", (("a", 1, "z"), ("aaaa", 4, "z"), ("aa", 2, "z"), ("aaa", 3, "z"))),
    ("", ()),
    ("", ()),
    ("", ()),
    ("", ()),
)
# In tongue 1 the close `>>` is longer than the open `>`, and shorter than the open `>-->`.
AGAINST = (
    ("", (("<", 1, ">>"), ("[", 2, "]"))),
    ("", ((">", 2, "]"), ("-", 2, "]"), (">-->", 2, "]"))),
    ("^", (("<", 1, "x"),)),
)
# Remarks that end with their line, and marks of several signs.
LINES = (("\\", (("--", 1, "\n"), ("<!--", 2, "-->"))), ("^", ()), ("", (("\n", 0, "\n."),)))
# Each tongue has its own escape; a tongue's escape is a plain sign to the others.
ESCAPES = (("0", (("(", 1, ")"),)), ("1", (("(", 2, ")"),)), ("", (("(", 0, ")"),)))
# In tongue 0 opens that begin with one another; in tongue 1 an open that the close begins with.
FORKED = (
    ("\\", (("<", 0, ">"), ("<<", 1, ">>"), ("<<<", 2, ">"))),
    ("", ((">", 2, ")"), ("<", 0, ">"))),
    ("^", (("<", 0, ">"),)),
)

BOOKS = (BARE, ESCAPED, WORDS, BRACKETS, LENGTHS, AGAINST, LINES, ESCAPES, FORKED)

# Each with the signs of which texts are made for it.
SIGNS = (
    (BARE, "a\\\n"),
    (ESCAPED, "a\\ "),
    (WORDS, '"(*)$\\'),
    (WORDS, '"${}\\a'),
    (BRACKETS, "<>\\a"),
    (LENGTHS, "az"),
    (AGAINST, "<>-]"),
    (AGAINST, "[]<x^"),
    (LINES, "-\n.\\"),
    (LINES, "<!->\n"),
    (ESCAPES, "(01)"),
    (FORKED, "<>)\\"),
    (FORKED, "<>^"),
)


def nested(kind, levels):
    """So many lists, or tuples, within one another."""
    thing = kind()
    for level in range(levels - 1):
        thing = kind([thing])
    return thing


# Things of all kinds that [2] names where it says "of anything".
NUMBERS = [0, 1, 5, 6, -1, 10 ** 40 - 1, 1 - 10 ** 40]
TRUTHS = [True, False, None]
LISTS = [[], [[]], nested(list, 8), [("", ())], ["", ()], ["<", 0, ">"], [0] * 100, ["text"], ["escape none"]]
TUPLES = [(), ((),), nested(tuple, 8), ("",), ("", (), ()), ((), ""), ("<", 0), ("<", 0, ">", 0), (0, "<", ">"),
          (None, None), (True,), ("", [()]), (0, 1, 2), tuple(nested(list, 7) for many in range(6)), ("text",),
          ("escape none",)]
NO_TEXTS = NUMBERS + TRUTHS + LISTS + TUPLES


def short_texts(signs, most):
    for many in range(most + 1):
        for text in itertools.product(signs, repeat=many):
            yield "".join(text)


def all_short_texts():
    for book, signs in SIGNS:
        for text in short_texts(signs, 5):
            yield book, text


def told_by_rules(book, text):
    """A second reading by [5], [6] and [8], written apart from the program: (steps, unfinished)."""
    told, ends = kept_by_rules(book, text)
    return list(told), list(ends)


@functools.lru_cache(maxsize=None)
def kept_by_rules(book, text):
    """The same, as tuples."""
    told, ends = read_by_rules(book, text, ())
    return tuple(told), tuple(ends)


def read_by_rules(book, text, doors):
    """The same, read where these doors are open, each (place, inner, close), from the outermost one on."""
    told, rest = [], text
    while rest:
        tongue = doors[-1][1] if doors else 0
        here = (tongue, len(doors))
        place = len(text) - len(rest)
        escape = book[tongue][0]
        marks = {opening: (inner, close) for opening, inner, close in book[tongue][1]}
        if doors:
            assert doors[-1][2] not in marks
            marks[doors[-1][2]] = None
        lengths = [many for many in (4, 3, 2, 1) if len(rest) >= many and rest[:many] in marks]
        if escape and rest.startswith(escape):
            many, word = (2, "escape") if len(rest) > 1 else (1, "cut")
        elif not lengths:
            many, word = 1, "sign"
        else:
            many = lengths[0]
            door = marks[rest[:many]]
            word = "close" if door is None else "open"
            if door is None:
                doors = doors[:-1]
                here = (doors[-1][1] if doors else 0, len(doors))
            else:
                doors = doors + ((place,) + door,)
        told.append((place, many, word) + here)
        rest = rest[many:]
    ends = list(doors)
    if told and told[-1][2] == "cut":
        ends.append((told[-1][0], told[-1][3], ""))
    return told, ends


def standing_by_rules(book, text):
    return tuple([(inner, close) for place, inner, close in told_by_rules(book, text)[1] if close])


def marks_in(book):
    return [mark for escape, doors in book for opening, inner, close in doors for mark in (opening, close)]


def tails_of(book):
    """All that goes on with a part of a mark of the book, and a sign that no mark has."""
    return ["~"] + [mark[many:] for mark in marks_in(book) for many in range(1, len(mark))]


@functools.lru_cache(maxsize=None)
def sure_by_tails(book, part):
    """The steps of the part, as many of the first ones as stay the same whatever comes behind it, as a tuple."""
    sure = told_by_rules(book, part)[0]
    for tail in tails_of(book):
        pairs = zip(sure, told_by_rules(book, part + tail)[0])
        sure = [one for one, other in itertools.takewhile(lambda pair: pair[0] == pair[1], pairs)]
    return tuple(sure)


def end_of(told):
    """The place behind these first steps of a text."""
    return sum(step[1] for step in told)


def long_text(signs, many):
    """A text of so many of these signs, in which all short stretches of them come."""
    return ("".join(short_texts(signs, 4)) * many)[:many]


def random_mark(chance, signs):
    return "".join(chance.choice(signs) for sign in range(chance.choice((1, 1, 2, 2, 3, 4))))


def random_book(chance, signs):
    """A book of few tongues with marks of these signs."""
    while True:
        many = chance.randint(1, 3)
        book = tuple(
            (chance.choice(("", "^", "^", "@")), tuple(
                (random_mark(chance, signs), chance.randrange(many), random_mark(chance, signs))
                for door in range(chance.randint(0, 3))
            ))
            for tongue in range(many)
        )
        if is_book(book):
            return book


def doors_of(book):
    """All doors of the book, each as (tongue, number)."""
    return [(tongue, number) for tongue, (escape, doors) in enumerate(book) for number in range(len(doors))]


class CheckedCase(unittest.TestCase):
    """Checks that are the same for several kinds of tests."""

    def refused(self, kind, asked, *values):
        """Checks that what is asked is refused with just this kind of error."""
        with self.assertRaises(kind) as caught:
            asked(*values)
        self.assertIs(type(caught.exception), kind)


class TimedCase(CheckedCase):
    def setUp(self):
        # Going through all choices of a long text would not end: better a failure.
        faulthandler.dump_traceback_later(300, exit=True, file=sys.__stderr__)
        self.addCleanup(faulthandler.cancel_dump_traceback_later)
