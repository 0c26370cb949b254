"""The breaks of a line, their order, the first of them, and whether a line is let by."""

import copy
import itertools
import unittest

from canonwright.houses import house_of
from canonwright.judging import breaks, first_break, is_let_by
from tests.reading import all_lists, breaks_read, made_houses

# One two beats late and four up; one a beat late and upside down; one not late, upside down.
VOICES = [(2, 4, False), (1, 3, True), (0, -5, True)]
LINE = [0, 2, 6, 1]
# The score of the line: [0, None, None, -5], [2, None, 3, -7], [6, 4, 1, -11], [1, 6, -3, -6].

SEVERAL = house_of(7, 2, 7, VOICES, [("range", -5, 5), ("leap", 3), ("span", 1, 12), ("above", 1, 0), ("back", 4, 4)])
SEVERAL_BREAKS = [
    (1, 0, (3,)), (1, 2, (0, 2)),
    (2, 0, (0,)), (2, 0, (3,)), (2, 1, ()), (2, 3, (1, 0)),
    (3, 0, (1,)), (3, 0, (3,)), (3, 1, ()), (3, 2, (0, 1)), (3, 2, (0, 2)), (3, 2, (0, 3)), (3, 2, (1, 3)), (3, 4, ()),
]


def with_rules(*rules):
    return house_of(7, 2, 7, VOICES, list(rules))


class Judged(unittest.TestCase):
    def holds(self, house, line, right):
        told = breaks(house, line)
        self.assertEqual(told, right, (house, line))
        self.assertIs(type(told), list)
        self.assertEqual([(type(item), type(item[2])) for item in told], [(tuple, tuple)] * len(told))
        self.assertEqual(first_break(house, line), right[0] if right else None, (house, line))
        self.assertIs(is_let_by(house, line), right == [], (house, line))


class Breaks(Judged):
    def test_several_rules_at_several_beats_by_several_voices(self):
        self.holds(SEVERAL, LINE, SEVERAL_BREAKS)

    def test_the_beat_goes_ahead_of_the_rule(self):
        self.holds(with_rules(("leap", 3), ("range", -6, 60)), [0, 2, 6], [(1, 1, (3,)), (2, 0, ()), (2, 1, (3,))])

    def test_the_rules_stand_as_the_house_has_them(self):
        rules = [("range", -5, 5), ("leap", 3), ("span", 1, 12)]
        for order in itertools.permutations(range(3)):
            house = with_rules(*[rules[k] for k in order])
            right = sorted((beat, order.index(number), voices) for beat, number, voices in SEVERAL_BREAKS if number < 3)
            self.holds(house, LINE, right)

    def test_one_rule_alone(self):
        for number, rule in enumerate(SEVERAL[4]):
            right = [(beat, 0, voices) for beat, k, voices in SEVERAL_BREAKS if k == number]
            self.assertNotEqual(right, [], rule)
            self.holds(with_rules(rule), LINE, right)

    def test_the_same_rule_twice(self):
        self.holds(with_rules(("leap", 3), ("leap", 3)), LINE, [(2, 0, ()), (2, 1, ()), (3, 0, ()), (3, 1, ())])
        self.holds(with_rules(("above", 1, 0), ("above", 1, 0)), LINE, [(2, 0, (1, 0)), (2, 1, (1, 0))])
        self.holds(with_rules(*[("leap", 4)] * 8), LINE, [(3, number, ()) for number in range(8)])

    def test_the_same_voices_both_ways_round(self):
        house = house_of(2, 1, 1, [(1, 0, False)], [("above", 1, 0), ("above", 0, 1)])
        self.holds(house, [0, 1, 0, 0], [(1, 0, (1, 0)), (2, 1, (0, 1))])

    def test_no_rule(self):
        self.holds(with_rules(), LINE, [])
        self.holds(with_rules(), [6, 0] * 200, [])

    def test_rules_that_the_line_keeps(self):
        self.holds(with_rules(("leap", 6), ("range", -11, 10), ("again", 1)), LINE, [])

    def test_the_line_without_notes(self):
        self.holds(SEVERAL, [], [])
        self.holds(with_rules(), [], [])
        self.holds(with_rules(("span", 0, 0), ("range", 60, 60), ("above", 0, 3)), [], [])

    def test_the_first_beat_and_the_last(self):
        self.holds(with_rules(("range", 1, 60)), [0], [(0, 0, (0,)), (0, 0, (3,))])
        self.holds(with_rules(("leap", 4)), [0, 0, 0, 0, 5], [(4, 0, ())])
        self.holds(with_rules(("leap", 4)), [0, 0, 0, 0, 4], [])

    def test_behind_the_last_beat_nothing_is_looked_at(self):
        # The follower would sound far too high behind the line's last beat.
        house = house_of(7, 1, 7, [(2, 12, False)], [("range", 0, 6)])
        self.holds(house, [0, 0], [])
        self.holds(house, [0, 0, 0], [(2, 0, (1,))])

    def test_the_notes_behind_a_break_do_not_heal_it(self):
        house = with_rules(("leap", 3))
        self.holds(house, [0, 4] + [4] * 398, [(1, 0, ())])

    def test_four_hundred_notes(self):
        self.holds(with_rules(("leap", 5)), [0, 6] * 200, [(beat, 0, ()) for beat in range(1, 400)])
        self.holds(with_rules(("leap", 6)), [0, 6] * 200, [])

    def test_every_small_line_of_many_houses(self):
        for house in made_houses(3, 60, 3):
            for many in range(5):
                for line in all_lists(house, many):
                    self.holds(house, line, breaks_read(house, line))

    def test_longer_lines_of_many_houses(self):
        for number, house in enumerate(made_houses(4, 60, 7)):
            line = [(k * k * (number + 1) + k // 3) % house[0] for k in range(20)]
            self.holds(house, line, breaks_read(house, line))


class Kept(unittest.TestCase):
    def test_the_told_list_is_the_askers_own(self):
        told = breaks(SEVERAL, LINE)
        other = breaks(SEVERAL, LINE)
        told.pop(0)
        told.append("more")
        self.assertEqual(other, SEVERAL_BREAKS)
        self.assertEqual(breaks(SEVERAL, LINE), SEVERAL_BREAKS)
        self.assertEqual(first_break(SEVERAL, LINE), SEVERAL_BREAKS[0])

    def test_the_told_list_without_breaks_is_a_new_one(self):
        breaks(SEVERAL, []).append("more")
        self.assertEqual(breaks(SEVERAL, []), [])
        breaks(with_rules(), LINE).append("more")
        self.assertEqual(breaks(with_rules(), LINE), [])
        self.assertIs(is_let_by(SEVERAL, []), True)

    def test_house_and_line_stay(self):
        house, line = copy.deepcopy((SEVERAL, LINE))
        for asked in (breaks, first_break, is_let_by):
            asked(house, line)
            self.assertEqual((house, line), (SEVERAL, LINE))

    def test_the_line_changed_behind_the_call(self):
        line = list(LINE)
        told = breaks(SEVERAL, line)
        line.clear()
        self.assertEqual(told, SEVERAL_BREAKS)
        self.assertEqual(breaks(SEVERAL, line), [])


if __name__ == "__main__":
    unittest.main()
