"""The rows that a desk is told: what they are made of, and how a text is one word of them."""

from tonguenest.books import is_plain_sign
from tonguenest.errors import NoRow
from tonguenest.texts import read_number, read_signs, write_signs

# The texts that are not written by their signs alone.
WORDS_BY_TEXTS = {"": "-", "-": "\\-"}
TEXTS_BY_WORDS = {"-": "", "\\-": "-"}

# By the first word of a row, what each word behind it writes.
FORMS = {
    "change": ("number", "number", "text"),
    "back": (),
    "text": (),
    "at": ("number",),
    "open": (),
    "forks": (),
    "own": ("number",),
    "put": ("number", "number", "text"),
}


def write_text(text):
    """The text as one word of a row."""
    return WORDS_BY_TEXTS.get(text, write_signs(text))


def is_sign(sign):
    return sign == " " or sign == "\n" or is_plain_sign(sign)


def read_text(word):
    """The text that the word of a row writes, or None."""
    text = TEXTS_BY_WORDS.get(word, read_signs(word))
    if write_text(text) != word or not all([is_sign(sign) for sign in text]):
        return None
    return text


def read_value(kind, word):
    """The number or the text that the word writes, or None."""
    return read_number(word) if kind == "number" else read_text(word)


def read_row(row):
    """The first word of the row, which may be anything, and the list of what the words behind it write."""
    if not isinstance(row, str):
        raise NoRow("this is no text")
    first, *words = row.split(" ")
    if first not in FORMS or len(FORMS[first]) != len(words):
        raise NoRow("there is no such row")
    values = [read_value(kind, word) for kind, word in zip(FORMS[first], words)]
    if None in values:
        raise NoRow("a word of the row is not written so")
    return first, values
