"""[11] to [13], and what [2] and [3] say of pages."""

import copy
import functools
import random
import unittest

from tests.samples import (
    AGAINST, BARE, BOOKS, BRACKETS, ESCAPED, FORKED, LENGTHS, LINES, SIGNS, WORDS, end_of, long_text, short_texts,
    standing_by_rules, sure_by_tails, told_by_rules,
)
from tonguenest.errors import NoPlace, Nothing, TooMany
from tonguenest.pages import Page

FAR = 10 ** 39


@functools.lru_cache(maxsize=None)
def standings_by_rules(book, text):
    """Where the steps of a text begin and where it ends, each with the standing there."""
    beginnings = [step[0] for step in told_by_rules(book, text)[0]] + [len(text)]
    return {place: standing_by_rules(book, text[:place]) for place in beginnings}


def anew_by_rules(book, old, begin, end, put):
    """What [12] says of a change, by both whole readings."""
    new = old[:begin] + put + old[end:]
    longer = len(new) - len(old)
    was, now = standings_by_rules(book, old), standings_by_rules(book, new)
    lasts = [place for place in now if place >= begin + len(put) and was.get(place - longer) == now[place]]
    return end_of(sure_by_tails(book, old[:begin])), min(lasts, default=len(new))


def all_stretches(text):
    for end in range(len(text) + 1):
        for begin in range(end + 1):
            yield begin, end


class PageCheck(unittest.TestCase):
    def check_page(self, page, book, text):
        self.assertEqual(page.text(), text)
        # Python would take minutes to show how two long lists differ.
        self.assertTrue(page.steps() == told_by_rules(book, text)[0], (book, text))

    def check_standings(self, page, book, text):
        standings = standings_by_rules(book, text)
        for place in range(len(text) + 1):
            behind = max(beginning for beginning in standings if beginning <= place)
            self.assertEqual(page.standing_at(place), standings[behind], (book, text, place))

    def check_change(self, page, book, begin, end, put):
        """Changes the page, checks all that it tells then, and gives back the new text."""
        old = page.text()
        told = page.change(begin, end, put)
        self.assertEqual(told, anew_by_rules(book, old, begin, end, put), (book, old, begin, end, put))
        new = old[:begin] + put + old[end:]
        self.check_page(page, book, new)
        return new


class NewPageTest(PageCheck):
    def test_a_page_of_no_text(self):
        for book in BOOKS:
            page = Page(book, "")
            self.check_page(page, book, "")
            self.assertEqual(page.standing_at(0), ())

    def test_pages_of_short_texts(self):
        for book, signs in SIGNS:
            for text in short_texts(signs, 4):
                page = Page(book, text)
                self.check_page(page, book, text)
                self.check_standings(page, book, text)

    def test_a_page_of_2000_signs(self):
        for book, signs in SIGNS:
            text = long_text(signs, 2000)
            self.check_page(Page(book, text), book, text)

    def test_a_page_never_has_more(self):
        for many in (2001, 2002, 4000):
            self.assertRaises(TooMany, Page, BARE, "a" * many)


class AnewTest(PageCheck):
    def anew(self, book, text, begin, end, put):
        return Page(book, text).change(begin, end, put)

    def test_signs_alone(self):
        self.assertEqual(self.anew(BARE, "abcdef", 2, 4, "x"), (2, 3))
        self.assertEqual(self.anew(BARE, "abcdef", 2, 4, "xyz"), (2, 5))
        self.assertEqual(self.anew(BARE, "abcdef", 2, 4, ""), (2, 2))
        self.assertEqual(self.anew(BARE, "abcdef", 0, 6, "ab"), (0, 2))

    def test_at_the_first_sign_and_at_the_end(self):
        self.assertEqual(self.anew(BARE, "abc", 0, 0, "xy"), (0, 2))
        self.assertEqual(self.anew(BARE, "abc", 3, 3, "xy"), (3, 5))
        self.assertEqual(self.anew(WORDS, 'a"b"', 4, 4, '"'), (4, 5))

    def test_a_page_of_no_text(self):
        self.assertEqual(self.anew(WORDS, "", 0, 0, ""), (0, 0))
        self.assertEqual(self.anew(WORDS, "", 0, 0, '"ab'), (0, 3))
        self.assertEqual(self.anew(WORDS, '"ab', 0, 3, ""), (0, 0))

    def test_nothing_by_nothing(self):
        self.assertEqual(self.anew(WORDS, '"ab"', 2, 2, ""), (2, 2))
        # `(` could still become `(*`.
        self.assertEqual(self.anew(WORDS, "((ab", 2, 2, ""), (1, 2))
        # Within a mark, and within an escape.
        self.assertEqual(self.anew(WORDS, "a(*b", 2, 2, ""), (1, 3))
        self.assertEqual(self.anew(ESCAPED, "a\\bc", 2, 2, ""), (1, 3))

    def test_a_stretch_by_the_same_signs(self):
        self.assertEqual(self.anew(WORDS, '"ab"c', 0, 2, '"a'), (0, 2))
        self.assertEqual(self.anew(WORDS, "a(*b*)c", 2, 3, "*"), (1, 3))

    def test_a_change_that_opens_a_door_that_is_never_shut(self):
        self.assertEqual(self.anew(WORDS, "abcdef", 2, 2, "{"), (2, 7))
        self.assertEqual(self.anew(WORDS, "abcdef", 2, 3, "{"), (2, 6))

    def test_a_change_that_opens_a_door_that_is_shut_further_on(self):
        self.assertEqual(self.anew(WORDS, 'ab cd" ef', 0, 0, '"'), (0, 10))
        self.assertEqual(self.anew(BRACKETS, "ab>cd", 1, 1, "<"), (1, 4))

    def test_a_change_that_shuts_a_door_sooner(self):
        self.assertEqual(self.anew(BRACKETS, "<ab>cd", 2, 2, ">"), (2, 5))
        self.assertEqual(self.anew(BRACKETS, "<abcd", 2, 3, ">"), (2, 5))

    def test_a_change_that_takes_a_close_away(self):
        self.assertEqual(self.anew(BRACKETS, "<a>b>c", 2, 3, ""), (2, 4))

    def test_the_same_tongue_and_depth_with_another_close_is_not_the_same_standing(self):
        book = (("", (("(", 1, ")"), ("[", 1, "]"))), ("", ()))
        self.assertEqual(self.anew(book, "(ab)c", 0, 1, "["), (0, 5))
        self.assertEqual(self.anew(book, "(ab)]c", 0, 1, "["), (0, 5))

    def test_a_door_within_one_that_is_another_is_not_the_same_standing(self):
        book = (("", (("(", 0, ")"), ("[", 0, "]"))),)
        self.assertEqual(self.anew(book, "((ab))c", 0, 1, "["), (0, 7))
        self.assertEqual(self.anew(book, "((ab)]c", 0, 1, "["), (0, 7))
        self.assertEqual(self.anew(book, "((ab)c", 0, 2, "(["), (0, 6))

    def test_a_change_within_a_mark(self):
        self.assertEqual(self.anew(LINES, "a<!--b-->c", 3, 4, "x"), (1, 10))
        self.assertEqual(self.anew(LINES, "a<!--b-->c", 7, 7, "x"), (6, 11))

    def test_a_change_that_makes_a_mark_whole(self):
        self.assertEqual(self.anew(LINES, "<!-ab", 3, 3, "-"), (0, 6))
        self.assertEqual(self.anew(WORDS, "(ab", 1, 1, "*"), (0, 4))
        self.assertEqual(self.anew(WORDS, "(a)", 1, 2, "*"), (0, 3))

    def test_a_change_ahead_of_what_ends_a_mark(self):
        # The new signs are the first ones of a mark that ends behind them.
        self.assertEqual(self.anew(LINES, "a!--b", 1, 1, "<"), (1, 6))
        # There `--` was an open, whose door stood to the end.
        self.assertEqual(self.anew(LINES, "a!--b-->c", 1, 1, "<"), (1, 10))

    def test_a_change_behind_an_escape(self):
        self.assertEqual(self.anew(BRACKETS, "a\\<b", 2, 2, "c"), (1, 5))
        self.assertEqual(self.anew(BRACKETS, "a\\cb", 2, 2, "<"), (1, 4))
        self.assertEqual(self.anew(BRACKETS, "a\\", 2, 2, "<"), (1, 3))
        self.assertEqual(self.anew(BRACKETS, "a\\<b", 3, 3, "c"), (3, 4))

    def test_a_change_that_puts_in_an_escape(self):
        self.assertEqual(self.anew(BRACKETS, "ab<c", 2, 2, "\\"), (2, 5))
        self.assertEqual(self.anew(BRACKETS, "abc", 2, 2, "\\"), (2, 4))
        self.assertEqual(self.anew(ESCAPED, "a\\\\\\bc", 1, 1, "\\"), (1, 6))

    def test_a_mark_that_could_be_a_longer_one_is_read_anew(self):
        self.assertEqual(self.anew(LENGTHS, "aaa", 3, 3, "."), (0, 4))
        self.assertEqual(self.anew(LENGTHS, "aaaab", 4, 4, "."), (4, 5))
        self.assertEqual(self.anew(LENGTHS, "aaab", 3, 3, "a"), (0, 5))

    def test_a_close_against_a_longer_open(self):
        self.assertEqual(self.anew(AGAINST, "<>-->", 3, 3, "."), (1, 6))
        self.assertEqual(self.anew(AGAINST, "<>>a", 2, 2, "-"), (1, 5))

    def test_all_changes_of_short_texts(self):
        for book, signs in SIGNS:
            puts = list(short_texts(signs, 2 if len(signs) < 5 else 1))
            for text in short_texts(signs, 3):
                for begin, end in all_stretches(text):
                    for put in puts:
                        self.check_change(Page(book, text), book, begin, end, put)

    def test_small_changes_of_texts_of_more_signs(self):
        for book, signs in SIGNS:
            for text in short_texts(signs[:4], 5 if len(signs) < 5 else 4):
                if len(text) > 3:
                    for begin in range(len(text) + 1):
                        self.check_change(Page(book, text), book, begin, min(begin + 1, len(text)), "")
                        self.check_change(Page(book, text), book, begin, begin, signs[begin % len(signs)])

    def test_one_change_behind_the_other(self):
        chance = random.Random(7)
        for book, signs in SIGNS:
            page = Page(book, long_text(signs, 20))
            for number in range(100):
                many = len(page.text())
                begin, end = sorted((chance.randint(0, many), chance.randint(0, many)))
                end = min(end, begin + 4)
                put = "".join(chance.choice(signs) for sign in range(chance.randint(0, 5)))
                new = self.check_change(page, book, begin, end, put)
                self.check_standings(page, book, new)


class RefusedChangeTest(PageCheck):
    def all_told(self, page):
        many = len(page.text())
        return page.text(), page.steps(), [page.standing_at(place) for place in range(many + 1)]

    def check_refused(self, page, error, begin, end, put):
        before = self.all_told(page)
        self.assertRaises(error, page.change, begin, end, put)
        self.assertTrue(self.all_told(page) == before, (error, begin, end))

    def test_no_such_place(self):
        page = Page(WORDS, '"ab"')
        page.change(1, 1, "c")
        for begin, end in ((-1, 0), (-1, -1), (0, 6), (6, 6), (3, 2), (5, 4), (0, -1), (-2, 7), (1, 0),
                           (-FAR, 0), (0, FAR), (FAR, FAR), (-FAR, FAR), (FAR, 0), (-FAR, -FAR), (5, FAR)):
            self.check_refused(page, NoPlace, begin, end, "x")
            self.check_refused(page, NoPlace, begin, end, "")
        page.take_back()
        self.assertEqual(page.text(), '"ab"')
        self.assertRaises(Nothing, page.take_back)

    def test_no_such_place_on_a_page_of_no_text(self):
        page = Page(WORDS, "")
        for begin, end in ((0, 1), (1, 1), (-1, 0), (1, 0)):
            self.check_refused(page, NoPlace, begin, end, "")
        self.assertRaises(Nothing, page.take_back)

    def test_too_many(self):
        text = long_text('"${}\\a', 2000)
        page = Page(WORDS, text)
        self.check_refused(page, TooMany, 0, 0, "a")
        self.check_refused(page, TooMany, 2000, 2000, "a")
        self.check_refused(page, TooMany, 7, 9, "abc")
        self.check_refused(page, TooMany, 0, 2000, "a" * 2001)
        self.assertRaises(Nothing, page.take_back)
        self.assertEqual(page.text(), text)

    def test_just_so_many(self):
        page = Page(BARE, "a" * 1999)
        self.assertEqual(page.change(5, 5, "b"), (5, 6))
        self.assertEqual(len(page.text()), 2000)
        self.assertRaises(TooMany, page.change, 5, 5, "b")
        self.assertEqual(page.change(0, 2000, "c" * 2000), (0, 2000))
        self.assertEqual(page.change(10, 12, "de"), (10, 12))
        self.assertRaises(TooMany, page.change, 10, 12, "def")
        page.take_back()
        self.assertEqual(page.text(), "c" * 2000)

    def test_both_refusals_are_due(self):
        page = Page(BARE, "a" * 2000)
        for begin, end in ((-1, 0), (2000, 2001), (7, 6), (FAR, FAR), (-FAR, 0)):
            self.check_refused(page, NoPlace, begin, end, "aaa")
            self.check_refused(page, NoPlace, begin, end, "a" * 2000)


class TakeBackTest(PageCheck):
    def test_nothing_to_take_back(self):
        for book in BOOKS:
            page = Page(book, "ab")
            self.assertRaises(Nothing, page.take_back)
            self.assertRaises(Nothing, page.take_back)
            self.check_page(page, book, "ab")

    def test_all_changes_of_short_texts(self):
        for book, signs in SIGNS:
            for text in short_texts(signs, 2):
                for begin, end in all_stretches(text):
                    for put in short_texts(signs, 1):
                        page = Page(book, text)
                        page.change(begin, end, put)
                        self.assertIsNone(page.take_back())
                        self.check_page(page, book, text)
                        self.check_standings(page, book, text)
                        self.assertRaises(Nothing, page.take_back)

    def test_one_by_one_to_the_first_text(self):
        chance = random.Random(3)
        for book, signs in SIGNS:
            page = Page(book, long_text(signs, 12))
            texts = []
            for number in range(40):
                texts.append(page.text())
                begin, end = sorted((chance.randint(0, len(texts[-1])), chance.randint(0, len(texts[-1]))))
                page.change(begin, end, "".join(chance.choice(signs) for sign in range(chance.randint(0, 9))))
            for text in texts[::-1]:
                page.take_back()
                self.check_page(page, book, text)
                self.check_standings(page, book, text)
            self.assertRaises(Nothing, page.take_back)

    def test_a_change_behind_one_that_was_taken_back(self):
        page = Page(WORDS, "a")
        page.change(1, 1, '"b')
        page.change(3, 3, '"c')
        page.take_back()
        self.check_change(page, WORDS, 1, 2, "(*")
        self.assertEqual(page.text(), "a(*b")
        for text in ('a"b', "a"):
            page.take_back()
            self.check_page(page, WORDS, text)
        self.assertRaises(Nothing, page.take_back)
        self.check_change(page, WORDS, 0, 1, "{")
        page.take_back()
        self.check_page(page, WORDS, "a")
        self.assertRaises(Nothing, page.take_back)

    def test_changes_that_change_nothing_count(self):
        page = Page(WORDS, '"a')
        page.change(2, 2, "b")
        page.change(1, 1, "")
        page.change(0, 3, '"ab')
        for text in ('"ab', '"ab', '"a'):
            page.take_back()
            self.assertEqual(page.text(), text)
        self.assertRaises(Nothing, page.take_back)

    def test_300_changes(self):
        page = Page(FORKED, "")
        texts = []
        for number in range(300):
            texts.append(page.text())
            place = number * 7 % (len(page.text()) + 1)
            page.change(place, place, ("<", ">>", "", "\\", "<<")[number % 5])
        self.check_page(page, FORKED, page.text())
        for text in texts[::-1]:
            page.take_back()
            self.assertEqual(page.text(), text)
        self.assertEqual(page.steps(), [])
        self.assertRaises(Nothing, page.take_back)

    def test_300_changes_of_2000_signs(self):
        text = "<" * 1000 + ">" * 1000
        page = Page(BRACKETS, text)
        for number in range(300):
            # With each door fewer the closes become signs one place sooner.
            self.assertEqual(page.change(number, number + 1, "a"), (number, 2000 - number))
        self.check_page(page, BRACKETS, "a" * 300 + "<" * 700 + ">" * 1000)
        for number in range(300):
            page.take_back()
        self.check_page(page, BRACKETS, text)
        self.assertEqual(page.standing_at(1000), ((0, ">"),) * 1000)
        self.assertRaises(Nothing, page.take_back)

    def test_what_is_told_of_a_change_behind_one_that_was_taken_back(self):
        for book, signs in SIGNS:
            text = long_text(signs, 15)
            for begin, end in all_stretches(text[:6]):
                page = Page(book, text)
                page.change(end, end + 5, signs)
                page.take_back()
                self.check_change(page, book, begin, end, signs[::-1])


class StandingAtTest(PageCheck):
    def test_within_a_step_of_several_signs(self):
        page = Page(LINES, "a<!--b-->c")
        inside = ((2, "-->"),)
        self.assertEqual(
            [page.standing_at(place) for place in range(11)],
            [(), (), (), (), (), inside, inside, inside, inside, (), ()],
        )

    def test_within_an_escape(self):
        page = Page(WORDS, '"\\a"')
        inside = ((1, '"'),)
        self.assertEqual([page.standing_at(place) for place in range(5)], [(), inside, inside, inside, ()])

    def test_from_the_outermost_door_on(self):
        self.assertEqual(Page(WORDS, '"a${(*b').standing_at(6), ((1, '"'), (0, "}"), (2, "*)")))

    def test_no_such_place(self):
        page = Page(WORDS, '"ab')
        for place in (-1, 4, 5, -3, FAR, -FAR):
            self.assertRaises(NoPlace, page.standing_at, place)
        self.assertRaises(NoPlace, Page(WORDS, "").standing_at, 1)
        self.assertRaises(NoPlace, Page(WORDS, "").standing_at, -1)
        self.check_page(page, WORDS, '"ab')

    def test_the_bound_goes_with_the_text(self):
        page = Page(WORDS, '"ab')
        page.change(0, 0, "c")
        self.assertEqual(page.standing_at(4), ((1, '"'),))
        page.take_back()
        self.assertRaises(NoPlace, page.standing_at, 4)

    def test_2000_open_doors(self):
        page = Page(BRACKETS, "<" * 2000)
        for place in (0, 1, 2, 999, 1000, 1999, 2000):
            self.assertEqual(page.standing_at(place), ((0, ">"),) * place)


class PromisesTest(PageCheck):
    def test_two_pages_of_one_text(self):
        text = '"a${b}"'
        one, other = Page(WORDS, text), Page(WORDS, text)
        one.change(0, 1, "{")
        self.check_page(other, WORDS, text)
        self.check_standings(other, WORDS, text)
        self.assertRaises(Nothing, other.take_back)
        other.change(7, 7, "(*")
        self.check_page(one, WORDS, '{a${b}"')
        one.take_back()
        self.check_page(one, WORDS, text)
        self.check_page(other, WORDS, text + "(*")

    def test_told_lists_are_new_ones(self):
        for text in ('"a${b}', ""):
            page = Page(WORDS, text)
            told = page.steps()
            self.assertIsInstance(told, list)
            told.clear()
            told.append("mine")
            self.check_page(page, WORDS, text)
            self.check_change(page, WORDS, len(text), len(text), "x")
            page.steps().clear()
            page.take_back()
            self.check_page(page, WORDS, text)

    def test_what_was_told_ahead_of_a_change_stays(self):
        page = Page(WORDS, '"ab')
        told = page.steps()
        kept = list(told)
        page.change(0, 1, "{{")
        self.assertEqual(told, kept)

    def test_kinds_of_values(self):
        page = Page(WORDS, '"a${b')
        told = page.change(1, 2, "x")
        self.assertIs(type(told), tuple)
        self.assertEqual([type(place) for place in told], [int, int])
        self.assertIs(type(page.text()), str)
        self.assertEqual([type(step) for step in page.steps()], [tuple] * 4)
        self.assertIs(type(page.standing_at(5)), tuple)
        self.assertEqual([type(door) for door in page.standing_at(5)], [tuple, tuple])

    def test_asking_changes_nothing(self):
        page = Page(WORDS, '"a${b')
        page.change(1, 2, "xy")
        for answer in range(2):
            self.check_page(page, WORDS, '"xy${b')
            self.check_standings(page, WORDS, '"xy${b')
        page.take_back()
        self.check_page(page, WORDS, '"a${b')

    def test_what_is_handed_in_is_unchanged(self):
        for book, signs in SIGNS:
            before = copy.deepcopy(book)
            page = Page(book, long_text(signs, 60))
            page.change(7, 30, signs)
            page.take_back()
            self.assertEqual(book, before)


if __name__ == "__main__":
    unittest.main()
