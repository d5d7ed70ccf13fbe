"""A page: a text that is changed, and read anew no further than a change reaches."""

from tonguenest.books import LONGEST_MARK
from tonguenest.errors import NoPlace, Nothing, TooMany
from tonguenest.readers import sure_steps
from tonguenest.reading import moved, read_step
from tonguenest.standings import Standings

MOST_SIGNS = 2000


class Page:
    """A page of a book, with a text that is changed."""

    def __init__(self, book, text):
        if len(text) > MOST_SIGNS:
            raise TooMany("a page has at most 2000 signs")
        self.book = book
        self.signs = ""
        self.told = []
        # The numbers of the standings ahead of each step, and of that behind the last one.
        self.stands = [0]
        self.standings = Standings()
        # What puts each change right again that is not taken back, as (begin, end, text).
        self.ways_back = []
        self.put(0, 0, text)

    def change(self, begin, end, text):
        """Puts the text in the place of the signs from begin on, ahead of end; tells what is read anew."""
        if not 0 <= begin <= end <= len(self.signs):
            raise NoPlace("the page has no such stretch")
        if len(self.signs) - (end - begin) + len(text) > MOST_SIGNS:
            raise TooMany("a page has at most 2000 signs")
        self.ways_back.append((begin, begin + len(text), self.signs[begin:end]))
        return self.put(begin, end, text)

    def take_back(self):
        """Takes back the last change that is not taken back."""
        if not self.ways_back:
            raise Nothing("there is no change to take back")
        begin, end, text = self.ways_back.pop()
        self.put(begin, end, text)

    def text(self):
        return self.signs

    def steps(self):
        return list(self.told)

    def standing_at(self, place):
        """The standing behind the last step that ends at the place or ahead of it."""
        if not 0 <= place <= len(self.signs):
            raise NoPlace("the page has no such place")
        return tuple(self.standings.doors_by(self.stands[self.count_ended(place)]))

    def put(self, begin, end, text):
        """Puts the text there, and reads anew from the first place that must be till the last one; tells both."""
        kept = self.count_sure(begin)
        first = self.beginning(kept)
        longer = len(text) - (end - begin)
        elder = self.numbers_by_beginnings(end, longer)
        self.signs = self.signs[:begin] + text + self.signs[end:]
        last = self.read_anew(kept, first, elder, longer)
        return (first, last)

    def read_anew(self, kept, first, elder, longer):
        """Reads behind the kept steps till the elder ones go on as they were, or the text ends; tells where."""
        told = self.told[:kept]
        stands = self.stands[:kept + 1]
        doors = self.standings.doors_by(stands[kept])
        place = first
        while place < len(self.signs) and not self.goes_on(place, elder, stands[-1]):
            step = read_step(self.book, self.signs, place, doors)
            told.append(step)
            stands.append(self.stand_behind(stands[-1], step, doors))
            place += step[1]
        number = elder[place]
        self.told = told + [moved(step, longer) for step in self.told[number:]]
        self.stands = stands + self.stands[number + 1:]
        return place

    def goes_on(self, place, elder, stand):
        """Whether an elder step begins at the place, which had this standing ahead of it."""
        return place in elder and self.stands[elder[place]] == stand

    def stand_behind(self, stand, step, doors):
        """The number of the standing behind a step, by that ahead of it and the doors that are open behind it."""
        if step[2] == "open":
            return self.standings.within(stand, doors[-1])
        if step[2] == "close":
            return self.standings.around(stand)
        return stand

    def beginning(self, number):
        """Where the step of this number begins, or, behind the last step, where the text ends."""
        if number == len(self.told):
            return len(self.signs)
        return self.told[number][0]

    def numbers_by_beginnings(self, end, longer):
        """The numbers of the steps from end on, and of the text's end, by where they begin in the longer text."""
        numbers = {}
        for number in range(len(self.told) + 1):
            if self.beginning(number) >= end:
                numbers[self.beginning(number) + longer] = number
        return numbers

    def count_sure(self, begin):
        """How many steps are sure by the text ahead of begin alone, up to the first one that is not."""
        # A step that ends so far ahead is sure: no mark from where it begins on would reach begin.
        far = self.count_ended(begin - LONGEST_MARK)
        near = self.signs[self.beginning(far):begin]
        return far + len(sure_steps(self.book, near, self.standings.doors_by(self.stands[far])))

    def count_ended(self, place):
        """How many steps end at the place or ahead of it."""
        least = 0
        most = len(self.told)
        while least < most:
            middle = (least + most + 1) // 2
            if self.beginning(middle) <= place:
                least = middle
            else:
                most = middle - 1
        return least
