"""How a text is read by a book, from its first sign on.

While a text is read, its open doors are a list of tuples
(place, inner, close) from the outermost one on, place that of the open step.
"""


def tongue_within(doors):
    """The tongue that is read where these doors are open."""
    if not doors:
        return 0
    place, inner, close = doors[-1]
    return inner


def fitting_marks(book, text, place, doors):
    """The marks that fit at the place, each as (mark, its door), the door of the close being None."""
    fits = []
    if doors:
        opened_at, inner, close = doors[-1]
        if text.startswith(close, place):
            fits.append((close, None))
    escape, ways = book[tongue_within(doors)]
    for door in ways:
        if text.startswith(door[0], place):
            fits.append((door[0], door))
    return fits


def take_mark(mark, door, place, doors):
    """The step of a mark that is taken; the open doors become those behind it."""
    if door is None:
        doors.pop()
        return (place, len(mark), "close", tongue_within(doors), len(doors))
    step = (place, len(mark), "open", tongue_within(doors), len(doors))
    opening, inner, close = door
    doors.append((place, inner, close))
    return step


def read_step(book, text, place, doors):
    """The step that begins at the place; the open doors become those behind it."""
    tongue = tongue_within(doors)
    escape, ways = book[tongue]
    if text[place] == escape:
        if place + 1 < len(text):
            return (place, 2, "escape", tongue, len(doors))
        return (place, 1, "cut", tongue, len(doors))
    fits = fitting_marks(book, text, place, doors)
    if not fits:
        return (place, 1, "sign", tongue, len(doors))
    mark, door = max(fits, key=lambda fit: len(fit[0]))
    return take_mark(mark, door, place, doors)


def read_whole(book, text):
    """The list of the steps of the text, and the list of the doors that are open behind it."""
    told = []
    doors = []
    place = 0
    while place < len(text):
        step = read_step(book, text, place, doors)
        told.append(step)
        place += step[1]
    return told, doors


def steps(book, text):
    """The steps of the text, each as (place, many, word, tongue, depth)."""
    told, doors = read_whole(book, text)
    return told


def tongues(book, text):
    """For each sign of the text the (tongue, depth) of its step."""
    signs = []
    for place, many, word, tongue, depth in steps(book, text):
        signs.extend([(tongue, depth)] * many)
    return signs


def standing(book, text):
    """The doors that are open behind the text, each as (inner, close)."""
    told, doors = read_whole(book, text)
    return tuple([(inner, close) for place, inner, close in doors])


def unfinished(book, text):
    """The doors that are open behind the text, each as (place, inner, close), and behind them a cut."""
    told, doors = read_whole(book, text)
    if told and told[-1][2] == "cut":
        place, many, word, tongue, depth = told[-1]
        doors.append((place, tongue, ""))
    return doors
