"""A tongue's own text: what stands in it, without what leads in or out."""

from tonguenest.books import is_number_below
from tonguenest.errors import NoPlace, NoTongue
from tonguenest.reading import steps


def own_steps(book, text, tongue):
    """The steps of the text that each give a sign to the tongue's own text."""
    if not is_number_below(tongue, len(book)):
        raise NoTongue("the book has no such tongue")
    return [step for step in steps(book, text) if step[3] == tongue and step[2] in ("sign", "escape")]


def own(book, text, tongue):
    """The tongue's own text, and where each of its signs stands in the text."""
    # Of either kind of step it is the last sign that counts.
    places = [step[0] + step[1] - 1 for step in own_steps(book, text, tongue)]
    return ("".join([text[place] for place in places]), places)


def led_back(book, text, tongue, begin, end):
    """The stretches of the text in which the steps of this stretch of the own text lie, each as (begin, end)."""
    found = own_steps(book, text, tongue)
    if not 0 <= begin <= end <= len(found):
        raise NoPlace("the own text has no such stretch")
    stretches = []
    for place, many, word, owner, depth in found[begin:end]:
        first = place
        if stretches and stretches[-1][1] == place:
            first = stretches.pop()[0]
        stretches.append((first, place + many))
    return stretches
