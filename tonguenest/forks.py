"""Where several marks fit, and whether a text could be read otherwise.

A room is what a sign can stand in: a door that was opened, as (inner, close),
or the outside, where no door is open, which the text's end alone shuts.
"""

from tonguenest.reading import fitting_marks, read_plain, read_step, take_mark

# No close of a door has no signs.
OUTSIDE = (0, "")


def forks(book, text):
    """The places of the steps at which several marks fit, each as (place, marks), the longest mark first."""
    found = []
    doors = []
    place = 0
    while place < len(text):
        marks = [mark for mark, door in fitting_marks(book, text, place, doors)]
        if len(marks) > 1:
            found.append((place, tuple(sorted(marks, key=len, reverse=True))))
        place += read_step(book, text, place, doors)[1]
    return found


def rooms_of(book):
    """The rooms that a reading by the book may come into, each once."""
    rooms = [OUTSIDE]
    for escape, doors in book:
        for opening, inner, close in doors:
            if (inner, close) not in rooms:
                rooms.append((inner, close))
    return rooms


def ends_from(book, text, place, room, ends):
    """Behind which places a free reading that is in the room at the place can shut it, as a dict of True.

    Of all places further on this is in ends, by (room, place).
    """
    if place == len(text):
        return {place: True} if room == OUTSIDE else {}
    doors = [] if room == OUTSIDE else [room]
    fits = fitting_marks(book, text, place, doors)
    if not fits:
        step = read_plain(book, text, place, doors)
        # A reading with a cut is not whole.
        return {} if step[2] == "cut" else ends[(room, place + step[1])]
    found = {}
    for mark, door in fits:
        behind = place + len(mark)
        if door is None:
            found[behind] = True
        else:
            opening, inner, close = door
            for back in ends[((inner, close), behind)]:
                found.update(ends[(room, back)])
    return found


def all_ends(book, text):
    """By (room, place), behind which places the room can be shut from there."""
    rooms = rooms_of(book)
    ends = {}
    for place in reversed(range(len(text) + 1)):
        for room in rooms:
            ends[(room, place)] = ends_from(book, text, place, room, ends)
    return ends


def can_be_whole(place, doors, ends):
    """Whether a free reading can go on from the place, with these doors open, to be whole."""
    places = [place]
    for room in reversed([OUTSIDE] + doors):
        behind = {}
        for begin in places:
            behind.update(ends[(room, begin)])
        places = list(behind)
    return len(places) > 0


def is_hopeful(mark, door, place, doors, ends):
    """Whether a free reading that takes this mark at the place can be whole."""
    tried = list(doors)
    take_mark(mark, door, place, tried)
    return can_be_whole(place + len(mark), tried, ends)


def whole_reading(book, text, ends, turn):
    """A whole free reading, and the places at which it could have taken another mark.

    At each place it takes the first hopeful mark, but at the place turn the second one.
    """
    told = []
    turns = []
    doors = []
    place = 0
    while place < len(text):
        fits = fitting_marks(book, text, place, doors)
        hopeful = [fit for fit in fits if is_hopeful(fit[0], fit[1], place, doors, ends)]
        if len(hopeful) > 1:
            turns.append(place)
        if hopeful:
            mark, door = hopeful[1 if place == turn else 0]
            step = take_mark(mark, door, place, doors)
        else:
            step = read_plain(book, text, place, doors)
        told.append(step)
        place += step[1]
    return told, turns


def free_readings(book, text):
    """Whether no free reading of the text is whole, one is, or more are: these told, at most two."""
    ends = all_ends(book, text)
    if not can_be_whole(0, [], ends):
        return ("none",)
    told, turns = whole_reading(book, text, ends, None)
    if not turns:
        return ("one", told)
    other, more = whole_reading(book, text, ends, turns[0])
    return ("two", told, other)
