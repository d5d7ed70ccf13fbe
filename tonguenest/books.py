"""What is a book: tongues, each with an escape and with doors to tongues."""

MOST_TONGUES = 6
MOST_DOORS = 6
LONGEST_MARK = 4
# By its number, as the sign itself may not stand in a string of the package.
PERCENT = 37


def is_plain_sign(sign):
    """Whether a text of one sign is one from `!` to `~` but the percent sign."""
    return "!" <= sign <= "~" and ord(sign) != PERCENT


def is_escape(thing):
    if not isinstance(thing, str) or len(thing) > 1:
        return False
    return thing == "" or is_plain_sign(thing)


def is_mark(thing):
    if not isinstance(thing, str) or not 1 <= len(thing) <= LONGEST_MARK:
        return False
    return all([sign == "\n" or is_plain_sign(sign) for sign in thing])


def is_number_below(thing, bound):
    # True and False are ints to Python, but no whole numbers.
    if not isinstance(thing, int) or isinstance(thing, bool):
        return False
    return 0 <= thing < bound


def is_door(thing, tongue_count):
    if not isinstance(thing, tuple) or len(thing) != 3:
        return False
    opening, inner, close = thing
    return is_mark(opening) and is_number_below(inner, tongue_count) and is_mark(close)


def is_tongue(thing, tongue_count):
    """Whether this is a tongue by itself, in a book of so many tongues."""
    if not isinstance(thing, tuple) or len(thing) != 2:
        return False
    escape, doors = thing
    if not is_escape(escape) or not isinstance(doors, tuple) or len(doors) > MOST_DOORS:
        return False
    return all([is_door(door, tongue_count) for door in doors])


def opens_differ(doors):
    return len({opening for opening, inner, close in doors}) == len(doors)


def marks_of(book):
    """All marks of the book, opens and closes."""
    marks = []
    for escape, doors in book:
        for opening, inner, close in doors:
            marks.append(opening)
            marks.append(close)
    return marks


def has_escape_in_mark(book):
    escapes = [escape for escape, doors in book]
    return any([sign in escapes for mark in marks_of(book) for sign in mark])


def closes_within(book, tongue):
    """The closes of all doors, of any tongue, that lead to this tongue."""
    return [close for escape, doors in book for opening, inner, close in doors if inner == tongue]


def has_open_behind_close(book, tongue):
    """Whether an open of the tongue begins with a close that may shut it."""
    closes = closes_within(book, tongue)
    return any([opening.startswith(close) for opening, inner, end in book[tongue][1] for close in closes])


def is_book(thing):
    """Whether the thing, which may be anything, is a book."""
    if not isinstance(thing, tuple) or not 1 <= len(thing) <= MOST_TONGUES:
        return False
    if not all([is_tongue(tongue, len(thing)) for tongue in thing]):
        return False
    if not all([opens_differ(doors) for escape, doors in thing]):
        return False
    if has_escape_in_mark(thing):
        return False
    return not any([has_open_behind_close(thing, tongue) for tongue in range(len(thing))])
