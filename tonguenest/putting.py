"""A text that is put behind a door, written so that it does not lead out."""

from tonguenest.books import is_number_below
from tonguenest.errors import NoDoor, NoWay
from tonguenest.reading import possible_marks


def room_behind(book, tongue, number):
    """Where the door of this number in the tongue leads to, as (inner, close)."""
    if not is_number_below(tongue, len(book)):
        raise NoDoor("the book has no such tongue")
    escape, doors = book[tongue]
    if not is_number_below(number, len(doors)):
        raise NoDoor("the tongue has no such door")
    opening, inner, close = doors[number]
    return (inner, close)


def could_fit(marks, rest):
    """Whether one of the marks fits where the text goes on with this rest and, behind it, with anything."""
    return any([rest.startswith(mark) or mark.startswith(rest) for mark in marks])


def put_in(book, tongue, number, text):
    """The text as it is written behind the door, with as few escapes as can be."""
    inner, close = room_behind(book, tongue, number)
    escape, ways = book[inner]
    marks = [mark for mark, door in possible_marks(book, [(inner, close)])]
    written = close
    # An escape ahead of any sign of a mark breaks it, as no mark has an escape in it. Gone through from the last
    # sign on, the one ahead of the mark's first sign is also in the most marks that begin further ahead.
    for sign in reversed(text):
        written = sign + written
        if sign == escape or could_fit(marks, written):
            if escape == "":
                raise NoWay("the tongue has no escape")
            written = escape + written
    return written[:len(written) - len(close)]


def fewest_escapes(book, tongue, number, text):
    """How many escapes the text needs at least where it is put behind the door."""
    return len(put_in(book, tongue, number, text)) - len(text)
