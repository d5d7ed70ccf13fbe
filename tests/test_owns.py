"""[17], and what [2] and [3] say of own texts."""

import copy
import random
import unittest

from tests.samples import (
    BARE, BOOKS, BRACKETS, ESCAPED, ESCAPES, LENGTHS, LINES, SIGNS, WORDS, CheckedCase, long_text, random_book,
    short_texts, told_by_rules,
)
from tonguenest.errors import NoPlace, NoTongue
from tonguenest.owns import led_back, own
from tonguenest.putting import put_in

FAR = 10 ** 39
TEXT = 'a"b\\"c${d{e}}f"(*g(*h*)*)i'


def stretches_by_rules(book, text, tongue):
    """For each sign of the tongue's own text the places of its step, the sign's own the last of them."""
    return [
        tuple(range(place, place + many)) for place, many, word, owner, depth in told_by_rules(book, text)[0]
        if owner == tongue and word in ("sign", "escape")
    ]


def runs_of(places):
    """The stretches of places that follow one another."""
    begins = [place for place in sorted(places) if place - 1 not in places]
    ends = [place + 1 for place in sorted(places) if place + 1 not in places]
    return list(zip(begins, ends))


class OwnCheck(CheckedCase):
    def check_own(self, book, text):
        for tongue in range(len(book)):
            found = stretches_by_rules(book, text, tongue)
            places = [stretch[-1] for stretch in found]
            self.assertEqual(
                own(book, text, tongue), ("".join(text[place] for place in places), places), (book, text, tongue))

    def check_led_back(self, book, text, tongue, begin, end):
        found = stretches_by_rules(book, text, tongue)[begin:end]
        places = {place for stretch in found for place in stretch}
        self.assertEqual(led_back(book, text, tongue, begin, end), runs_of(places), (book, text, tongue, begin, end))


class OwnTest(OwnCheck):
    def test_a_text_of_no_signs(self):
        for book in BOOKS:
            for tongue in range(len(book)):
                self.assertEqual(own(book, "", tongue), ("", []))

    def test_a_book_of_one_tongue(self):
        self.assertEqual(own(BARE, "a b\n", 0), ("a b\n", [0, 1, 2, 3]))

    def test_each_tongue_of_a_text(self):
        self.assertEqual(own(WORDS, TEXT, 0), ("adei", [0, 8, 10, 25]))
        self.assertEqual(own(WORDS, TEXT, 1), ('b"cf', [2, 4, 5, 13]))
        self.assertEqual(own(WORDS, TEXT, 2), ("gh", [17, 20]))

    def test_tongues_that_do_not_occur(self):
        self.assertEqual(own(WORDS, "ab", 1), ("", []))
        self.assertEqual(own(WORDS, "ab", 2), ("", []))
        self.assertEqual(own(WORDS, '""', 1), ("", []))
        self.assertEqual(own(WORDS, '"ab', 0), ("", []))

    def test_the_second_sign_of_an_escape(self):
        self.assertEqual(own(ESCAPED, "\\\\", 0), ("\\", [1]))
        self.assertEqual(own(ESCAPED, "a\\ b", 0), ("a b", [0, 2, 3]))
        self.assertEqual(own(BRACKETS, "\\<<\\>>", 0), ("<>", [1, 4]))
        self.assertEqual(own(LINES, "--^\n\n", 1), ("\n", [3]))

    def test_an_escape_is_of_its_own_tongue(self):
        self.assertEqual(own(ESCAPES, "01(011)", 0), ("1", [1]))
        self.assertEqual(own(ESCAPES, "01(011)", 1), ("01", [3, 5]))

    def test_a_cut_is_left_out(self):
        self.assertEqual(own(ESCAPED, "\\", 0), ("", []))
        self.assertEqual(own(ESCAPED, "a\\", 0), ("a", [0]))
        self.assertEqual(own(WORDS, '"b\\', 1), ("b", [1]))

    def test_opens_and_closes_are_left_out(self):
        self.assertEqual(own(BRACKETS, "<<>><", 0), ("", []))
        self.assertEqual(own(BRACKETS, "a<b<c>d>e", 0), ("abcde", [0, 2, 4, 6, 8]))
        self.assertEqual(own(WORDS, "(*(**)", 2), ("", []))

    def test_a_close_that_shuts_nothing_is_a_sign(self):
        self.assertEqual(own(BRACKETS, ">", 0), (">", [0]))
        self.assertEqual(own(WORDS, "*)}", 0), ("*)}", [0, 1, 2]))

    def test_texts_that_are_left_open(self):
        self.assertEqual(own(WORDS, 'a"b${c', 0), ("ac", [0, 5]))
        self.assertEqual(own(WORDS, 'a"b${c', 1), ("b", [2]))

    def test_many_texts(self):
        for book, signs in SIGNS:
            for text in short_texts(signs, 4):
                self.check_own(book, text)

    def test_many_books(self):
        chance = random.Random(17)
        for number in range(200):
            book = random_book(chance, "ab<")
            self.check_own(book, "".join(chance.choice("aabb<^@") for sign in range(30)))

    def test_2000_signs(self):
        for book, signs in SIGNS:
            text = long_text(signs, 2000)
            for tongue in range(len(book)):
                places = [stretch[-1] for stretch in stretches_by_rules(book, text, tongue)]
                # Python would take minutes to show how two such long lists differ.
                self.assertTrue(own(book, text, tongue) == ("".join(text[place] for place in places), places))


class LedBackTest(OwnCheck):
    def test_a_stretch_of_nothing(self):
        for tongue, many in ((0, 4), (1, 4), (2, 2)):
            for place in range(many + 1):
                self.assertEqual(led_back(WORDS, TEXT, tongue, place, place), [])
        self.assertEqual(led_back(BARE, "", 0, 0, 0), [])

    def test_a_stretch_of_all(self):
        self.assertEqual(led_back(WORDS, TEXT, 0, 0, 4), [(0, 1), (8, 9), (10, 11), (25, 26)])
        self.assertEqual(led_back(WORDS, TEXT, 1, 0, 4), [(2, 6), (13, 14)])
        self.assertEqual(led_back(WORDS, TEXT, 2, 0, 2), [(17, 18), (20, 21)])
        self.assertEqual(led_back(BARE, "abc", 0, 0, 3), [(0, 3)])

    def test_a_stretch_of_one_sign(self):
        self.assertEqual(led_back(WORDS, TEXT, 0, 1, 2), [(8, 9)])
        self.assertEqual(led_back(WORDS, TEXT, 1, 0, 1), [(2, 3)])
        self.assertEqual(led_back(WORDS, TEXT, 1, 3, 4), [(13, 14)])

    def test_an_escape_is_led_back_to_both_its_signs(self):
        self.assertEqual(led_back(WORDS, TEXT, 1, 1, 2), [(3, 5)])
        self.assertEqual(led_back(ESCAPED, "\\\\\\a", 0, 0, 1), [(0, 2)])
        self.assertEqual(led_back(ESCAPED, "\\\\\\a", 0, 1, 2), [(2, 4)])

    def test_those_that_touch_are_one(self):
        self.assertEqual(led_back(WORDS, TEXT, 1, 0, 2), [(2, 5)])
        self.assertEqual(led_back(WORDS, TEXT, 1, 1, 3), [(3, 6)])
        self.assertEqual(led_back(ESCAPED, "\\\\\\a", 0, 0, 2), [(0, 4)])
        self.assertEqual(led_back(ESCAPED, "a\\bc\\", 0, 0, 3), [(0, 4)])

    def test_those_that_do_not_touch_are_two(self):
        self.assertEqual(led_back(WORDS, TEXT, 1, 2, 4), [(5, 6), (13, 14)])
        self.assertEqual(led_back(BRACKETS, "a<b", 0, 0, 2), [(0, 1), (2, 3)])
        self.assertEqual(led_back(BRACKETS, "ab<>cd", 0, 0, 4), [(0, 2), (4, 6)])
        self.assertEqual(led_back(BRACKETS, "ab<>cd", 0, 1, 3), [(1, 2), (4, 5)])

    def test_each_stretch_of_many_texts(self):
        for book, signs in SIGNS:
            for text in short_texts(signs, 3):
                for tongue in range(len(book)):
                    many = len(stretches_by_rules(book, text, tongue))
                    for end in range(many + 1):
                        for begin in range(end + 1):
                            self.check_led_back(book, text, tongue, begin, end)

    def test_many_books(self):
        chance = random.Random(18)
        for number in range(200):
            book = random_book(chance, "ab<")
            text = "".join(chance.choice("aabb<^@") for sign in range(30))
            for tongue in range(len(book)):
                many = len(stretches_by_rules(book, text, tongue))
                begin, end = sorted((chance.randint(0, many), chance.randint(0, many)))
                self.check_led_back(book, text, tongue, begin, end)

    def test_2000_signs(self):
        self.assertEqual(led_back(BARE, "a" * 2000, 0, 0, 2000), [(0, 2000)])
        self.assertEqual(led_back(ESCAPED, "\\a" * 1000, 0, 1, 1000), [(2, 2000)])
        told = led_back(BRACKETS, "a<b>" * 500, 0, 0, 1000)
        self.assertTrue(told == [(place, place + 1) for place in range(0, 2000, 2)])


class NoPlaceTest(CheckedCase):
    def test_places_below_nought(self):
        for begin, end in ((-1, 0), (-1, 1), (-1, -1), (0, -1), (-FAR, 1), (-FAR, -FAR), (-FAR, FAR)):
            self.refused(NoPlace, led_back, WORDS, TEXT, 0, begin, end)

    def test_places_beyond(self):
        for begin, end in ((0, 5), (4, 5), (5, 5), (0, FAR), (4, FAR), (FAR, FAR), (0, 10 ** 40 - 1)):
            self.refused(NoPlace, led_back, WORDS, TEXT, 0, begin, end)
        self.assertEqual(led_back(WORDS, TEXT, 0, 4, 4), [])

    def test_places_of_the_text_that_the_own_text_does_not_have(self):
        self.refused(NoPlace, led_back, WORDS, TEXT, 2, 0, 3)
        self.refused(NoPlace, led_back, WORDS, "abc", 1, 0, 1)
        self.refused(NoPlace, led_back, ESCAPED, "\\\\", 0, 0, 2)
        self.refused(NoPlace, led_back, ESCAPED, "\\", 0, 0, 1)

    def test_turned_about(self):
        for begin, end in ((1, 0), (4, 0), (4, 3), (FAR, 0), (FAR, -FAR), (FAR, 1)):
            self.refused(NoPlace, led_back, WORDS, TEXT, 0, begin, end)

    def test_a_text_of_no_signs(self):
        self.refused(NoPlace, led_back, BARE, "", 0, 0, 1)
        self.refused(NoPlace, led_back, BARE, "", 0, 1, 1)
        self.refused(NoPlace, led_back, BARE, "", 0, -1, 0)


class NoTongueTest(CheckedCase):
    def test_tongues_that_there_are_not(self):
        for book in BOOKS:
            for tongue in (-1, -len(book), -len(book) - 1, len(book), len(book) + 1, FAR, -FAR, 10 ** 40 - 1):
                self.refused(NoTongue, own, book, "a", tongue)
                self.refused(NoTongue, own, book, "", tongue)
                self.refused(NoTongue, led_back, book, "a", tongue, 0, 0)

    def test_the_last_tongue_is_one(self):
        self.assertEqual(own(LENGTHS, "aaaab", 4), ("b", [4]))
        self.refused(NoTongue, own, LENGTHS, "aaaab", 5)

    def test_ahead_of_all_else(self):
        for tongue in (-1, 3, FAR):
            for begin, end in ((-1, 0), (0, FAR), (2, 1), (0, 5), (-FAR, -FAR)):
                self.refused(NoTongue, led_back, WORDS, TEXT, tongue, begin, end)


class PromisesTest(CheckedCase):
    def test_told_lists_are_new_ones(self):
        told, places = own(WORDS, TEXT, 0)
        places.clear()
        self.assertEqual(own(WORDS, TEXT, 0), ("adei", [0, 8, 10, 25]))
        own(WORDS, "", 0)[1].append("mine")
        self.assertEqual(own(WORDS, "", 0), ("", []))
        led_back(WORDS, TEXT, 0, 0, 2).clear()
        self.assertEqual(led_back(WORDS, TEXT, 0, 0, 2), [(0, 1), (8, 9)])
        led_back(WORDS, TEXT, 0, 0, 0).append("mine")
        self.assertEqual(led_back(WORDS, TEXT, 0, 0, 0), [])

    def test_kinds_of_values(self):
        told = own(WORDS, TEXT, 1)
        self.assertIs(type(told), tuple)
        self.assertEqual([type(part) for part in told], [str, list])
        self.assertEqual({type(place) for place in told[1]}, {int})
        stretches = led_back(WORDS, TEXT, 1, 0, 4)
        self.assertIs(type(stretches), list)
        self.assertEqual([[type(place) for place in stretch] for stretch in stretches], [[int, int]] * 2)
        self.assertEqual({type(stretch) for stretch in stretches}, {tuple})

    def test_by_its_places_an_own_text_is_where_it_stands(self):
        for book, signs in SIGNS:
            text = long_text(signs, 200)
            for tongue in range(len(book)):
                told, places = own(book, text, tongue)
                self.assertEqual(told, "".join(text[place] for place in places))
                self.assertEqual(places, sorted(set(places)))

    def test_what_is_put_behind_a_door_is_the_own_text_there(self):
        for text in ('a"b\\c${d', "", '"', "${", " \n"):
            written = put_in(WORDS, 0, 0, text)
            self.assertEqual(own(WORDS, '"' + written + '"', 1)[0], text)
            end = 1 + len(written)
            whole = led_back(WORDS, '"' + written + '"', 1, 0, len(text))
            self.assertEqual(whole, [(1, end)] if text else [])

    def test_what_is_handed_in_is_unchanged_and_told_the_same_again(self):
        for book, signs in SIGNS:
            before = copy.deepcopy(book)
            text = long_text(signs, 60)
            for tongue in range(len(book)):
                many = len(own(book, text, tongue)[1])
                self.assertEqual(own(book, text, tongue), own(book, text, tongue))
                self.assertEqual(led_back(book, text, tongue, 0, many), led_back(book, text, tongue, 0, many))
            self.assertEqual(book, before)


if __name__ == "__main__":
    unittest.main()
