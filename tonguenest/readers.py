"""Which steps are sure by the first part of a text, and a reader that is told a text in pieces."""

from tonguenest.reading import moved, possible_marks, read_on, read_step, tongue_within


def is_sure(book, part, place, doors):
    """Whether the step at the place is the same whatever comes behind this part; these doors are open ahead of it."""
    rest = part[place:]
    escape, ways = book[tongue_within(doors)]
    if rest == escape:
        return False
    marks = [mark for mark, door in possible_marks(book, doors)]
    return not any([len(mark) > len(rest) and mark.startswith(rest) for mark in marks])


def sure_steps(book, part, doors):
    """The steps that are sure by this part, up to the first one that is not.

    The part is read where these doors are open; they become those behind the told steps.
    """
    told = []
    place = 0
    while place < len(part) and is_sure(book, part, place, doors):
        step = read_step(book, part, place, doors)
        told.append(step)
        place += step[1]
    return told


class Reader:
    """A reader of a book, which is told a text in pieces."""

    def __init__(self, book):
        self.book = book
        self.begin_anew()

    def begin_anew(self):
        # Of the text only the signs that are not told are kept, with the place of the first of them.
        self.rest = ""
        self.place = 0
        self.doors = []

    def feed(self, piece):
        """The steps that are sure by this piece and were not before."""
        self.rest += piece
        return self.hand_out(sure_steps(self.book, self.rest, self.doors))

    def finish(self):
        """The rest of the steps; the reader is then as at first."""
        told = self.hand_out(read_on(self.book, self.rest, self.doors))
        self.begin_anew()
        return told

    def hand_out(self, found):
        """The steps that were found in the rest, with their places in the whole text; the rest goes on behind them."""
        told = [moved(step, self.place) for step in found]
        many = sum([step[1] for step in found])
        self.rest = self.rest[many:]
        self.place += many
        return told

    def standing(self):
        """The standing behind all steps that were told."""
        return tuple(self.doors)

    def held(self):
        """How many signs are not told."""
        return len(self.rest)
