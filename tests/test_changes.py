"""Houses with their followers exchanged, without one, or turned over, held against the breaks of lines."""

import copy
import itertools
import unittest

from canonwright.changes import exchanged, line_over, turned_over, without
from canonwright.compare import compared
from canonwright.errors import CanonError, NoHouse, NoNumber
from canonwright.houses import house_of
from canonwright.judging import breaks, is_let_by
from tests.reading import all_lists, breaks_read, made_houses, pairs_read

GREAT = 10 ** 59

ONE = house_of(4, 2, 7, [(1, 2, False)], [("above", 1, 0), ("span", 1, 0b0110101), ("above", 0, 1)])
TWO = house_of(4, 2, 7, [(1, 2, False), (3, -4, True)],
               [("above", 1, 0), ("leap", 2), ("above", 2, 1), ("above", 0, 2), ("range", -7, 5)])
THREE = house_of(5, 3, 12, [(0, 7, True), (2, -3, False), (4, 12, False)],
                 [("above", 1, 0), ("above", 2, 3), ("span", 2, 0b101101110101), ("above", 3, 0), ("back", 2, 3),
                  ("above", 0, 2), ("never", 0, 7, "like"), ("above", 3, 1)])


def short_lines(house):
    """All lines of a few notes, and some longer ones."""
    found = []
    for many in range(4):
        found.extend(all_lists(house, many))
    for many in range(4, 9):
        found.extend(all_lists(house, many)[5::house[0] ** many // 11 + 1])
    return found


class Case(unittest.TestCase):
    def is_house(self, house):
        self.assertIsInstance(house, tuple)
        self.assertEqual(house_of(*house), house)
        for part in house[3] + house[4]:
            self.assertIsInstance(part, tuple)
        self.assertEqual([type(part) for part in house[3:]], [tuple, tuple])

    def refused(self, kind, ask, *parts):
        with self.assertRaises(CanonError) as caught:
            ask(*parts)
        self.assertIs(type(caught.exception), kind)


class Exchanged(Case):
    def holds(self, house, order):
        found = exchanged(house, order)
        self.is_house(found)
        self.assertEqual(found[:3], house[:3])
        self.assertEqual(list(found[3]), [house[3][number - 1] for number in order])
        self.assertEqual(len(found[4]), len(house[4]))
        # Each follower's new number, by its old one.
        news = [0] + [order.index(number) + 1 for number in range(1, len(order) + 1)]
        for old, new in zip(house[4], found[4]):
            self.assertEqual(new, ("above", news[old[1]], news[old[2]]) if old[0] == "above" else old)
        for line in short_lines(house):
            self.assertEqual(breaks_read(found, line) == [], breaks_read(house, line) == [], (order, line))
            self.same_breaks(house, found, news, line)
        return found

    def same_breaks(self, house, found, news, line):
        right = []
        for beat, number, voices in breaks(house, line):
            renamed = tuple(news[voice] for voice in voices)
            if house[4][number][0] != "above":
                renamed = tuple(sorted(renamed))
            right.append((beat, number, renamed))
        self.assertEqual(breaks(found, line), sorted(right))

    def test_one_follower(self):
        self.assertEqual(self.holds(ONE, [1]), ONE)

    def test_two_followers(self):
        self.assertEqual(self.holds(TWO, [1, 2]), TWO)
        found = self.holds(TWO, [2, 1])
        self.assertEqual(found, house_of(4, 2, 7, [(3, -4, True), (1, 2, False)],
                                         [("above", 2, 0), ("leap", 2), ("above", 1, 2), ("above", 0, 1), ("range", -7, 5)]))

    def test_three_followers_by_each_order(self):
        for order in itertools.permutations([1, 2, 3]):
            self.holds(THREE, list(order))
        self.assertEqual(exchanged(THREE, [1, 2, 3]), THREE)

    def test_an_order_that_is_not_its_own_way_back(self):
        found = exchanged(THREE, [2, 3, 1])
        self.assertEqual(found[3], ((2, -3, False), (4, 12, False), (0, 7, True)))
        aboves = [rule for rule in found[4] if rule[0] == "above"]
        self.assertEqual(aboves, [("above", 3, 0), ("above", 1, 2), ("above", 2, 0), ("above", 0, 1), ("above", 2, 3)])
        self.assertEqual(exchanged(found, [3, 1, 2]), THREE)
        self.assertNotEqual(exchanged(found, [2, 3, 1]), THREE)

    def test_followers_that_are_alike(self):
        house = house_of(3, 1, 5, [(1, 0, False), (1, 0, False)], [("above", 1, 2), ("above", 2, 0)])
        self.assertEqual(exchanged(house, [2, 1])[4], (("above", 2, 1), ("above", 1, 0)))

    def test_many_houses(self):
        for house in made_houses(31, 60, 3):
            for order in itertools.permutations(range(1, len(house[3]) + 1)):
                found = exchanged(house, list(order))
                self.is_house(found)
                for line in all_lists(house, 5)[::9]:
                    self.assertEqual(breaks_read(found, line) == [], breaks_read(house, line) == [])

    def test_they_are_told_alike(self):
        told = 0
        for house in made_houses(32, 60, 3):
            found = exchanged(house, list(range(len(house[3]), 0, -1)))
            if len(pairs_read(house, found)) <= 150:
                self.assertEqual(compared(house, found)[0], "alike")
                told += 1
        self.assertGreater(told, 20)


class Without(Case):
    def holds(self, house, voice):
        found = without(house, voice)
        self.is_house(found)
        self.assertEqual(found[:3], house[:3])
        self.assertEqual(found[3], house[3][:voice - 1] + house[3][voice:])
        left = [number for number in range(len(house[3]) + 1) if number != voice]
        rules = []
        for rule in house[4]:
            if rule[0] != "above":
                rules.append(rule)
            elif voice not in rule[1:]:
                rules.append(("above", left.index(rule[1]), left.index(rule[2])))
        self.assertEqual(found[4], tuple(rules))
        for line in short_lines(house):
            if breaks_read(house, line) == []:
                self.assertEqual(breaks_read(found, line), [], (voice, line))
            self.breaks_of_the_others(house, found, voice, left, line)
        return found

    def breaks_of_the_others(self, house, found, voice, left, line):
        # The breaks without the voice are those of the house in which it has no part.
        kept = [number for number, rule in enumerate(house[4]) if rule[0] != "above" or voice not in rule[1:]]
        right = [(beat, kept.index(number), tuple(left.index(v) for v in voices))
                 for beat, number, voices in breaks(house, line) if voice not in voices]
        self.assertEqual(breaks(found, line), sorted(right))

    def test_each_of_two(self):
        self.assertEqual(self.holds(TWO, 1), house_of(4, 2, 7, [(3, -4, True)], [("leap", 2), ("above", 0, 1), ("range", -7, 5)]))
        self.assertEqual(self.holds(TWO, 2), house_of(4, 2, 7, [(1, 2, False)], [("above", 1, 0), ("leap", 2), ("range", -7, 5)]))

    def test_each_of_three(self):
        others = [rule for rule in THREE[4] if rule[0] != "above"]
        right = {1: [("above", 1, 2), others[0], ("above", 2, 0), others[1], ("above", 0, 1), others[2]],
                 2: [("above", 1, 0), others[0], ("above", 2, 0), others[1], others[2], ("above", 2, 1)],
                 3: [("above", 1, 0), others[0], others[1], ("above", 0, 2), others[2]]}
        for voice in (1, 2, 3):
            self.assertEqual(self.holds(THREE, voice)[4], tuple(right[voice]))

    def test_all_but_one(self):
        self.assertEqual(without(without(THREE, 3), 1), without(without(THREE, 1), 2))
        self.refused(NoHouse, without, without(without(THREE, 3), 1), 1)

    def test_a_number_that_none_has(self):
        for house in (TWO, THREE):
            many = len(house[3])
            for voice in (0, -1, -2, -3, many + 1, 4, 5, GREAT, -GREAT):
                self.refused(NoNumber, without, house, voice)

    def test_the_only_one(self):
        self.refused(NoHouse, without, ONE, 1)
        self.refused(NoHouse, without, house_of(1, 1, 1, [(0, 0, True)], []), 1)

    def test_a_number_that_none_has_meets_the_only_one(self):
        for voice in (0, -1, 2, 3, 4, GREAT, -GREAT):
            self.refused(NoNumber, without, ONE, voice)

    def test_it_may_let_more_lines_by(self):
        line = [1, 3]
        self.assertFalse(is_let_by(house_of(4, 1, 9, [(0, 0, False), (1, 0, False)], [("above", 2, 0)]), line))
        self.assertTrue(is_let_by(without(house_of(4, 1, 9, [(0, 0, False), (1, 0, False)], [("above", 2, 0)]), 2), line))

    def test_many_houses(self):
        for house in made_houses(33, 90, 3):
            for voice in range(1, len(house[3]) + 1):
                if len(house[3]) == 1:
                    self.refused(NoHouse, without, house, voice)
                    continue
                found = without(house, voice)
                self.is_house(found)
                for line in all_lists(house, 5)[::9]:
                    if breaks_read(house, line) == []:
                        self.assertEqual(breaks_read(found, line), [])


class TurnedOver(Case):
    def holds(self, house):
        found = turned_over(house)
        self.is_house(found)
        self.assertEqual(found[:3], house[:3])
        for line in short_lines(house):
            over = line_over(house, line)
            self.assertEqual(breaks_read(found, over) == [], breaks_read(house, line) == [], line)
            self.same_breaks(house, found, line, over)
        return found

    def same_breaks(self, house, found, line, over):
        right = []
        for beat, number, voices in breaks(house, line):
            right.append((beat, number, voices[::-1] if house[4][number][0] == "above" else voices))
        self.assertEqual(breaks(found, over), sorted(right))

    def test_a_plain_follower(self):
        for notes in range(1, 8):
            for shift in range(-12, 13):
                found = turned_over(house_of(notes, 1, 12, [(3, shift, False)], []))
                self.assertEqual(found, house_of(notes, 1, 12, [(3, -shift, False)], []))

    def test_a_turned_follower(self):
        for notes in range(1, 8):
            for shift in range(-12, 13):
                house = house_of(notes, 1, 12, [(2, shift, True)], [])
                if 2 * (notes - 1) - shift > 12:
                    self.refused(NoHouse, turned_over, house)
                else:
                    right = house_of(notes, 1, 12, [(2, 2 * (notes - 1) - shift, True)], [])
                    self.assertEqual(turned_over(house), right)

    def test_at_the_edges(self):
        self.assertEqual(turned_over(house_of(1, 1, 1, [(0, -12, True)], []))[3], ((0, 12, True),))
        self.assertEqual(turned_over(house_of(1, 1, 1, [(0, 12, True)], []))[3], ((0, -12, True),))
        self.assertEqual(turned_over(house_of(7, 1, 1, [(0, 0, True)], []))[3], ((0, 12, True),))
        self.assertEqual(turned_over(house_of(7, 1, 1, [(0, 12, True)], []))[3], ((0, 0, True),))
        self.refused(NoHouse, turned_over, house_of(7, 1, 1, [(0, -1, True)], []))
        self.refused(NoHouse, turned_over, house_of(2, 1, 1, [(0, -11, True)], []))
        self.assertEqual(turned_over(house_of(2, 1, 1, [(0, -10, True)], []))[3], ((0, 12, True),))

    def test_any_follower_may_be_beyond(self):
        near, far = (1, 3, True), (1, -12, True)
        for voices in ([far, near, near], [near, far, near], [near, near, far], [near, far], [(0, 0, False), far]):
            self.refused(NoHouse, turned_over, house_of(4, 1, 1, voices, [("above", 0, 1)]))
        self.is_house(turned_over(house_of(4, 1, 1, [near, near, (0, -12, False)], [])))

    def test_a_range(self):
        for notes in (1, 4, 7):
            top = notes - 1
            for low, high in ((0, 0), (-3, 5), (2, 9), (-9, -2), (-60 + top, 60), (top - 60, top + 54), (-54, 60)):
                found = turned_over(house_of(notes, 1, 12, [(0, 0, False)], [("range", low, high)]))
                self.assertEqual(found[4], (("range", top - high, top - low),))

    def test_a_range_that_ends_beyond(self):
        for notes in range(2, 8):
            top = notes - 1
            for low, high, right in ((-60, 60, (top - 60, 60)), (-60, -60, (60, 60)), (-60, 0, (top, 60)),
                                     (-59, -58, (min(60, top + 58), min(60, top + 59))), (60, 60, (top - 60, top - 60)),
                                     (top - 61, 3, (top - 3, 60)), (top - 60, 3, (top - 3, 60)),
                                     (top - 59, 3, (top - 3, 59))):
                if low >= -60:
                    found = turned_over(house_of(notes, 1, 12, [(0, 0, False)], [("range", low, high)]))
                    self.assertEqual(found[4], (("range", *right),), (notes, low, high))
                    self.is_house(found)
        self.assertEqual(turned_over(house_of(1, 1, 12, [(0, 0, False)], [("range", -60, 60)]))[4], (("range", -60, 60),))

    def test_an_end_beyond_forbids_nothing_else(self):
        for low, high in ((-60, 3), (-60, -60), (-59, -57), (-60, 60)):
            self.holds(house_of(4, 1, 12, [(1, 5, False), (0, 3, True)], [("range", low, high)]))

    def test_above(self):
        found = turned_over(THREE)
        self.assertEqual([rule for rule in found[4] if rule[0] == "above"],
                         [("above", 0, 1), ("above", 3, 2), ("above", 0, 3), ("above", 2, 0), ("above", 1, 3)])

    def test_all_else_is_as_it_is(self):
        rules = (("span", 1, 0b1011), ("leap", 2), ("back", 2, 3), ("again", 2), ("never", 1, 3, "like"),
                 ("never", 0, 2, "against"), ("never", 3, 3, "aside"), ("never", 2, 1, "any"))
        found = self.holds(house_of(4, 2, 4, [(1, 2, False), (0, 4, True)], rules))
        self.assertEqual(found, house_of(4, 2, 4, [(1, -2, False), (0, 2, True)], rules))

    def test_held_against_breaks(self):
        for house in (ONE, TWO, THREE):
            self.holds(house)

    def test_twice(self):
        for house in (ONE, TWO, THREE):
            self.assertEqual(turned_over(turned_over(house)), house)
        house = house_of(4, 1, 12, [(0, 0, False)], [("range", -60, 60)])
        self.assertEqual(turned_over(turned_over(house))[4], (("range", -57, 60),))
        for house in made_houses(34, 60, 7):
            if all(not turned or 2 * (house[0] - 1) - shift <= 12 for late, shift, turned in house[3]):
                self.assertEqual(turned_over(turned_over(house)), house)

    def test_many_houses(self):
        refused = 0
        for house in made_houses(35, 90, 4):
            if any(turned and 2 * (house[0] - 1) - shift > 12 for late, shift, turned in house[3]):
                self.refused(NoHouse, turned_over, house)
                refused += 1
                continue
            found = turned_over(house)
            self.is_house(found)
            for line in all_lists(house, 5)[::9]:
                self.assertEqual(breaks_read(found, line_over(house, line)) == [], breaks_read(house, line) == [])
        self.assertGreater(refused, 5)
        self.assertLess(refused, 80)


class LineOver(unittest.TestCase):
    def test_each_note(self):
        house = house_of(7, 1, 12, [(0, 0, False)], [])
        self.assertEqual(line_over(house, [0, 1, 2, 3, 4, 5, 6]), [6, 5, 4, 3, 2, 1, 0])
        self.assertEqual(line_over(house, [6, 0, 0]), [0, 6, 6])
        self.assertEqual(line_over(house_of(1, 1, 12, [(0, 0, False)], []), [0, 0]), [0, 0])
        self.assertEqual(line_over(house_of(2, 1, 12, [(0, 0, False)], []), [0, 1, 1]), [1, 0, 0])

    def test_without_notes(self):
        self.assertEqual(line_over(ONE, []), [])

    def test_twice(self):
        for line in short_lines(TWO):
            self.assertEqual(line_over(TWO, line_over(TWO, line)), line)

    def test_where_the_house_can_not_be_turned_over(self):
        house = house_of(4, 1, 12, [(0, -12, True)], [])
        self.assertEqual(line_over(house, [0, 3, 1]), [3, 0, 2])

    def test_a_long_line(self):
        self.assertEqual(line_over(ONE, [0, 1, 2, 3] * 100), [3, 2, 1, 0] * 100)


class Kept(unittest.TestCase):
    def test_what_is_handed_in_stays(self):
        order, line = [3, 1, 2], [0, 4, 2]
        exchanged(THREE, order)
        line_over(THREE, line)
        self.assertEqual((order, line), ([3, 1, 2], [0, 4, 2]))

    def test_what_is_told_is_the_askers_own(self):
        line = []
        told = line_over(THREE, line)
        told.append(1)
        self.assertEqual((line, line_over(THREE, line)), ([], []))
        told = line_over(THREE, [1, 2])
        right = copy.deepcopy(told)
        told.append(9)
        self.assertEqual(line_over(THREE, [1, 2]), right)

    def test_an_order_changed_behind_the_call(self):
        order = [3, 1, 2]
        found = exchanged(THREE, order)
        right = copy.deepcopy(found)
        order.reverse()
        self.assertEqual(found, right)


if __name__ == "__main__":
    unittest.main()
