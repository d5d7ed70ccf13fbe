"""How signs, numbers and books are written as texts, and read from them."""

from tonguenest.books import is_book
from tonguenest.errors import NoText

MOST_FIGURES = 9
FIGURES = "0123456789"


def write_signs(text):
    """The signs of the text as one word."""
    # The backslash goes first, as the others are written with it.
    return text.replace("\\", "\\\\").replace(" ", "\\s").replace("\n", "\\n")


def read_signs(word):
    """The text whose signs the word writes; if there is none, one that is written otherwise."""
    parts = [part.replace("\\s", " ").replace("\\n", "\n") for part in word.split("\\\\")]
    return "\\".join(parts)


def read_number(word):
    """The number of at most nine figures that the word writes, or None."""
    if not 1 <= len(word) <= MOST_FIGURES or not all([sign in FIGURES for sign in word]):
        return None
    number = int(word)
    return number if str(number) == word else None


def tongue_line(tongue):
    """The line that writes the tongue."""
    escape, doors = tongue
    words = ["escape", write_signs(escape) or "none"]
    for opening, inner, close in doors:
        words.extend([write_signs(opening), str(inner), write_signs(close)])
    return " ".join(words)


def book_text(book):
    """The text that writes the book."""
    return "\n".join([tongue_line(tongue) for tongue in book])


def read_tongue(line):
    """The tongue that the line writes; if there is none, anything that is not written so."""
    words = line.split(" ")
    if len(words) < 2:
        return None
    escape = "" if words[1] == "none" else read_signs(words[1])
    doors = []
    for at in range(2, len(words) - 2, 3):
        doors.append((read_signs(words[at]), read_number(words[at + 1]), read_signs(words[at + 2])))
    return (escape, tuple(doors))


def read_book(text):
    """The book that the text, which may be anything, writes."""
    if not isinstance(text, str):
        raise NoText("this is no text")
    book = tuple([read_tongue(line) for line in text.split("\n")])
    # Written anew, whatever was not just so written shows.
    if not is_book(book) or book_text(book) != text:
        raise NoText("no book is written so")
    return book
