"""A desk: a page of a book that a text writes, which is told rows and answers them with texts."""

from tonguenest.errors import NoPlace
from tonguenest.forks import forks
from tonguenest.owns import own
from tonguenest.pages import Page
from tonguenest.putting import put_in
from tonguenest.reading import tongues, unfinished
from tonguenest.rows import read_row, write_text
from tonguenest.texts import read_book


def listed(words):
    return " ".join(words) or "none"


def answer_change(page, values):
    begin, end, text = values
    first, last = page.change(begin, end, text)
    return f"{first} {last}"


def answer_back(page, values):
    page.take_back()
    return "ok"


def answer_text(page, values):
    return write_text(page.text())


def answer_at(page, values):
    place = values[0]
    told = tongues(page.book, page.text())
    if place >= len(told):
        raise NoPlace("the page has no sign there")
    tongue, depth = told[place]
    return f"{tongue} {depth}"


def answer_open(page, values):
    ends = unfinished(page.book, page.text())
    return listed([f"{place}:{inner}" for place, inner, close in ends])


def answer_forks(page, values):
    return listed([str(place) for place, marks in forks(page.book, page.text())])


def answer_own(page, values):
    signs, places = own(page.book, page.text(), values[0])
    return write_text(signs)


def answer_put(page, values):
    tongue, number, text = values
    return write_text(put_in(page.book, tongue, number, text))


# By the first word of a row.
ANSWERS = {
    "change": answer_change,
    "back": answer_back,
    "text": answer_text,
    "at": answer_at,
    "open": answer_open,
    "forks": answer_forks,
    "own": answer_own,
    "put": answer_put,
}


class Desk:
    """A desk with a page of the book that the text writes."""

    def __init__(self, book_text):
        self.page = Page(read_book(book_text), "")

    def say(self, row):
        """The answer to a row, which may be anything."""
        first, values = read_row(row)
        answer = ANSWERS[first]
        return answer(self.page, values)
