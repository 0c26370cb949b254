"""How many lists of notes can follow a line, each by its number, and in which order they are refused."""

import copy
import math
import unittest

from canonwright.counts import count, nth, number_of
from canonwright.errors import Broken, NoNumber, TooMany
from canonwright.houses import house_of
from canonwright.judging import breaks, first_break
from tests.reading import all_lists, breaks_read, come_read, made_houses

GREAT = int("9" * 60)

# Any of four notes at any time.
FREE = house_of(4, 1, 12, [(0, 0, False)], [])
# Each note higher than the one before it.
RISING = house_of(7, 1, 12, [(1, 0, False)], [("above", 0, 1), ("again", 1)])
# Two notes, and none of them a third time on end.
TWICE = house_of(2, 1, 12, [(0, 0, False)], [("again", 2)])
# From the start come 151 stands, from [0] but 131.
LEAPING = house_of(3, 3, 11, [(1, 2, False), (3, -3, False)], [("leap", 1)])
# Far too many stands, whatever the line is.
MANY = house_of(7, 4, 12, [(4, 0, False)], [("leap", 5)])


def lists_read(house, line, n):
    """The lists of n notes that can follow, gone through one by one."""
    return [more for more in all_lists(house, n) if breaks_read(house, line + more) == []]


class Refusing(unittest.TestCase):
    def refused(self, kind, asked, *parts):
        with self.assertRaises(kind) as caught:
            asked(*parts)
        self.assertIs(type(caught.exception), kind, parts)
        return caught.exception


class Small(Refusing):
    def holds(self, house, line, n):
        right = lists_read(house, line, n)
        self.assertEqual(count(house, line, n), len(right), (house, line, n))
        for number, more in enumerate(right):
            self.assertEqual(nth(house, line, n, number), more, (house, line, n, number))
            self.assertEqual(number_of(house, line, more), number, (house, line, more))
        for number in (-1, len(right), len(right) + 1, GREAT, -GREAT):
            self.refused(NoNumber, nth, house, line, n, number)
        for more in all_lists(house, n):
            if more not in right:
                self.refused(NoNumber, number_of, house, line, more)
        return len(right)

    def test_from_the_start_of_many_houses(self):
        found = {}
        for house in made_houses(15, 45, 3):
            if len(come_read(house, [])) <= 150:
                for n in range(5):
                    found[self.holds(house, [], n)] = True
        self.assertIn(0, found)
        self.assertGreater(len(found), 20)

    def test_behind_begun_lines_of_many_houses(self):
        for number, house in enumerate(made_houses(16, 30, 3)):
            for many in (1, 2, 3, 4, 5, 7):
                line = [(k * k * (number + 1) + k // 2) % house[0] for k in range(many)]
                if breaks_read(house, line) == [] and len(come_read(house, line)) <= 150:
                    for n in range(4):
                        self.holds(house, line, n)

    def test_some_by_hand(self):
        self.assertEqual(count(TWICE, [], 3), 6)
        told = [nth(TWICE, [], 3, number) for number in range(6)]
        self.assertEqual(told, [[0, 0, 1], [0, 1, 0], [0, 1, 1], [1, 0, 0], [1, 0, 1], [1, 1, 0]])
        self.assertEqual([nth(TWICE, [0, 0], 2, number) for number in range(2)], [[1, 0], [1, 1]])
        self.assertEqual([number_of(TWICE, [0, 0], more) for more in ([1, 0], [1, 1])], [0, 1])

    def test_lists_are_numbered_from_nought(self):
        for n in range(4):
            self.assertEqual(nth(FREE, [2], n, 0), [0] * n)
            self.assertEqual(number_of(FREE, [2], [0] * n), 0)

    def test_no_notes(self):
        for house, line in ((FREE, []), (FREE, [1, 2, 3, 0]), (RISING, [6]), (RISING, [])):
            self.assertEqual(count(house, line, 0), 1)
            self.assertEqual(nth(house, line, 0, 0), [])
            self.assertEqual(number_of(house, line, []), 0)
            for number in (-1, 1, GREAT):
                self.refused(NoNumber, nth, house, line, 0, number)

    def test_none_at_all(self):
        for n in (1, 2, 39, 40):
            self.assertEqual(count(RISING, [6], n), 0)
            for number in (-1, 0, 1):
                self.refused(NoNumber, nth, RISING, [6], n, number)
        self.refused(NoNumber, number_of, RISING, [6], [6])

    def test_notes_that_lead_to_an_end_are_passed_over(self):
        # The follower sings a 0 too low two notes later, so it stands at the end of a list alone.
        house = house_of(3, 1, 12, [(2, -1, False)], [("range", 0, 2)])
        right = lists_read(house, [], 4)
        self.assertEqual([more for more in right if 0 in more[:2]], [])
        self.assertEqual([nth(house, [], 4, number) for number in range(count(house, [], 4))], right)
        self.assertEqual(right[0], [1, 1, 0, 0])

    def test_a_list_that_breaks_a_rule_at_its_first_its_last_and_a_middle_note(self):
        for more in ([3, 4, 5], [4, 4, 5], [4, 5, 5], [4, 5, 3], [4, 6, 5]):
            self.refused(NoNumber, number_of, RISING, [0, 3], more)
        self.assertEqual(number_of(RISING, [0, 3], [4, 5, 6]), 0)


class Great(Refusing):
    def test_forty_free_notes(self):
        self.assertEqual(count(FREE, [], 40), 4 ** 40)
        self.assertEqual(count(FREE, [1] * 360, 40), 4 ** 40)
        self.assertEqual(nth(FREE, [], 40, 4 ** 40 - 1), [3] * 40)
        self.assertEqual(nth(FREE, [], 40, 0), [0] * 40)
        self.assertEqual(nth(FREE, [], 40, 1), [0] * 39 + [1])
        self.assertEqual(number_of(FREE, [], [3] * 40), 4 ** 40 - 1)
        self.assertEqual(number_of(FREE, [], [1] + [0] * 39), 4 ** 39)
        for number in (4 ** 40, 4 ** 40 + 1, -1, GREAT, -GREAT):
            self.refused(NoNumber, nth, FREE, [], 40, number)

    def test_the_numbers_are_those_of_the_figures(self):
        for number in (4 ** 40 // 3, 4 ** 40 // 7, 123456789012345678901234):
            notes = [number // 4 ** (39 - place) % 4 for place in range(40)]
            self.assertEqual(nth(FREE, [], 40, number), notes)
            self.assertEqual(number_of(FREE, [], notes), number)

    def test_rising_lists(self):
        for n in range(41):
            self.assertEqual(count(RISING, [], n), math.comb(7, n))
            self.assertEqual(count(RISING, [1], n), math.comb(5, n))
        self.assertEqual(nth(RISING, [], 7, 0), [0, 1, 2, 3, 4, 5, 6])
        self.refused(NoNumber, nth, RISING, [], 7, 1)
        self.refused(NoNumber, nth, RISING, [], 8, 0)

    def test_a_note_at_most_twice_on_end(self):
        before, here = 2, 4
        for n in range(2, 41):
            self.assertEqual(count(TWICE, [], n), here)
            before, here = here, before + here

    def test_each_the_others_way_back(self):
        for house, line in ((FREE, [3]), (TWICE, []), (TWICE, [0, 1, 1]), (LEAPING, [0]), (LEAPING, [1, 2, 2, 1, 0, 0])):
            for n in (1, 2, 5, 17, 39, 40):
                most = count(house, line, n)
                for number in (0, 1, most // 3, most // 2, most - 2, most - 1):
                    if 0 <= number < most:
                        more = nth(house, line, n, number)
                        self.assertEqual(len(more), n)
                        self.assertEqual(breaks(house, line + more), [])
                        self.assertEqual(number_of(house, line, more), number)

    def test_the_lists_rise_with_their_numbers(self):
        told = [nth(LEAPING, [1], 40, number) for number in range(10 ** 9, 10 ** 9 + 20)]
        self.assertEqual(told, sorted(told))
        self.assertEqual(len({tuple(more) for more in told}), 20)

    def test_a_list_somewhat_longer_has_its_number_too(self):
        self.assertEqual(number_of(FREE, [], [3] * 41), 4 ** 41 - 1)
        self.assertEqual(number_of(FREE, [2], [0] * 49 + [2]), 2)


class Refused(Refusing):
    def test_the_number_of_notes(self):
        for n in (0, 1, 39, 40):
            self.assertEqual(count(FREE, [], n), 4 ** n)
            self.assertEqual(nth(FREE, [], n, 0), [0] * n)
        for n in (-1, -2, 41, 42, GREAT, -GREAT):
            self.refused(NoNumber, count, FREE, [], n)
            for number in (0, -1, GREAT):
                self.refused(NoNumber, nth, FREE, [], n, number)

    def test_a_line_that_is_broken(self):
        for house, line in ((RISING, [3, 3]), (RISING, [0, 1, 0, 0]), (TWICE, [0, 1, 1, 1, 1]), (LEAPING, [0, 2])):
            right = breaks_read(house, line)[0]
            self.assertEqual(first_break(house, line), right)
            for error in (self.refused(Broken, count, house, line, 2), self.refused(Broken, nth, house, line, 2, 0),
                          self.refused(Broken, number_of, house, line, [1, 0]),
                          self.refused(Broken, number_of, house, line, [])):
                self.assertEqual(error.first, right)

    def test_too_many(self):
        for house, line in ((LEAPING, []), (MANY, []), (MANY, [0, 5, 3, 2, 1, 1, 1])):
            for n in (0, 1, 40):
                self.refused(TooMany, count, house, line, n)
                self.refused(TooMany, nth, house, line, n, 0)
                self.refused(TooMany, number_of, house, line, [1] * n)

    def test_it_is_the_stand_of_the_line_that_counts(self):
        self.assertEqual(count(LEAPING, [0], 2), 5)
        self.assertEqual(nth(LEAPING, [0], 2, 4), [1, 2])
        self.assertEqual(number_of(LEAPING, [0], [1, 2]), 4)

    def test_broken_goes_ahead_of_all(self):
        for n in (-1, 0, 2, 41, GREAT):
            self.refused(Broken, count, MANY, [0, 6], n)
            self.refused(Broken, count, RISING, [1, 1], n)
            for number in (-1, 0, GREAT):
                self.refused(Broken, nth, MANY, [0, 6], n, number)
                self.refused(Broken, nth, RISING, [1, 1], n, number)
        for more in ([], [0], [0, 6], [0] * 40):
            self.refused(Broken, number_of, MANY, [0, 6], more)
            self.refused(Broken, number_of, RISING, [1, 1], more)

    def test_the_number_of_notes_goes_ahead_of_too_many(self):
        for n in (-1, 41, GREAT, -GREAT):
            self.refused(NoNumber, count, MANY, [], n)
            for number in (-1, 0, GREAT):
                self.refused(NoNumber, nth, MANY, [], n, number)

    def test_too_many_goes_ahead_of_a_number_that_no_list_has(self):
        for n in (0, 1, 40):
            for number in (-1, GREAT, -GREAT):
                self.refused(TooMany, nth, MANY, [], n, number)
                self.refused(TooMany, nth, LEAPING, [], n, number)

    def test_too_many_goes_ahead_of_a_list_that_is_not_let_by(self):
        self.refused(TooMany, number_of, MANY, [], [0, 6])
        self.refused(TooMany, number_of, MANY, [0], [6])
        self.refused(TooMany, number_of, LEAPING, [], [0, 2])
        self.refused(NoNumber, number_of, LEAPING, [0], [2])


class Kept(Refusing):
    def test_what_is_told_is_the_askers_own(self):
        for n, number in ((3, 5), (0, 0)):
            told = nth(FREE, [], n, number)
            right = list(told)
            self.assertIs(type(told), list)
            told.append("more")
            self.assertEqual(nth(FREE, [], n, number), right)

    def test_whole_numbers(self):
        for told in (count(FREE, [], 0), count(RISING, [6], 3), count(FREE, [], 40), number_of(FREE, [], []),
                     number_of(FREE, [], [3] * 40)):
            self.assertIs(type(told), int)

    def test_what_is_handed_in_stays(self):
        line, more = [0, 1, 1], [0, 1]
        house = copy.deepcopy(TWICE)
        count(house, line, 2), nth(house, line, 2, 1), number_of(house, line, more)
        self.assertEqual((house, line, more), (TWICE, [0, 1, 1], [0, 1]))

    def test_what_is_handed_in_stays_where_it_is_refused(self):
        line, more = [0, 1, 1], [1, 1]
        self.refused(NoNumber, number_of, TWICE, line, more)
        self.refused(NoNumber, nth, TWICE, line, 2, 99)
        self.assertEqual((line, more), ([0, 1, 1], [1, 1]))

    def test_asked_again_behind_a_change(self):
        line = [0]
        self.assertEqual(count(RISING, line, 1), 6)
        line.append(5)
        self.assertEqual(count(RISING, line, 1), 1)
        line.clear()
        self.assertEqual(count(RISING, line, 1), 7)


if __name__ == "__main__":
    unittest.main()
