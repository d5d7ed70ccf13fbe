"""How a text is read by a book, from its first sign on.

While a text is read, its open doors are a list of tuples (inner, close)
from the outermost one on.
"""


def tongue_within(doors):
    """The tongue that is read where these doors are open."""
    if not doors:
        return 0
    inner, close = doors[-1]
    return inner


def possible_marks(book, doors):
    """The marks that could fit where these doors are open, each as (mark, its door), the close's door being None."""
    marks = []
    if doors:
        inner, close = doors[-1]
        marks.append((close, None))
    escape, ways = book[tongue_within(doors)]
    for door in ways:
        marks.append((door[0], door))
    return marks


def fitting_marks(book, text, place, doors):
    """Those of the possible marks that fit at the place."""
    return [(mark, door) for mark, door in possible_marks(book, doors) if text.startswith(mark, place)]


def take_mark(mark, door, place, doors):
    """The step of a mark that is taken; the open doors become those behind it."""
    if door is None:
        doors.pop()
        return (place, len(mark), "close", tongue_within(doors), len(doors))
    step = (place, len(mark), "open", tongue_within(doors), len(doors))
    opening, inner, close = door
    doors.append((inner, close))
    return step


def read_plain(book, text, place, doors):
    """The step that begins at the place if no mark is taken there."""
    tongue = tongue_within(doors)
    escape, ways = book[tongue]
    if text[place] != escape:
        return (place, 1, "sign", tongue, len(doors))
    if place + 1 < len(text):
        return (place, 2, "escape", tongue, len(doors))
    return (place, 1, "cut", tongue, len(doors))


def read_step(book, text, place, doors):
    """The step that begins at the place; the open doors become those behind it."""
    # No mark has a sign that is an escape, so where a mark fits no escape goes ahead of it.
    fits = fitting_marks(book, text, place, doors)
    if not fits:
        return read_plain(book, text, place, doors)
    mark, door = max(fits, key=lambda fit: len(fit[0]))
    return take_mark(mark, door, place, doors)


def read_on(book, text, doors):
    """The steps of the text, read where these doors are open; the open doors become those behind it."""
    told = []
    place = 0
    while place < len(text):
        step = read_step(book, text, place, doors)
        told.append(step)
        place += step[1]
    return told


def places_left_open(told):
    """The places of those open steps whose doors are not shut by the steps behind them."""
    places = []
    for place, many, word, tongue, depth in told:
        if word == "open":
            places.append(place)
        elif word == "close":
            places.pop()
    return places


def moved(step, by):
    """The step, so many signs further on."""
    place, many, word, tongue, depth = step
    return (place + by, many, word, tongue, depth)


def steps(book, text):
    """The steps of the text, each as (place, many, word, tongue, depth)."""
    return read_on(book, text, [])


def tongues(book, text):
    """For each sign of the text the (tongue, depth) of its step."""
    signs = []
    for place, many, word, tongue, depth in steps(book, text):
        signs.extend([(tongue, depth)] * many)
    return signs


def standing(book, text):
    """The doors that are open behind the text, each as (inner, close)."""
    doors = []
    read_on(book, text, doors)
    return tuple(doors)


def unfinished(book, text):
    """The doors that are open behind the text, each as (place, inner, close), and behind them a cut."""
    doors = []
    told = read_on(book, text, doors)
    ends = [(place, inner, close) for place, (inner, close) in zip(places_left_open(told), doors)]
    if told and told[-1][2] == "cut":
        place, many, word, tongue, depth = told[-1]
        ends.append((place, tongue, ""))
    return ends
