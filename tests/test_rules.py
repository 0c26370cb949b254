"""Where each of the seven rules is broken, and by which voices."""

import itertools
import unittest

from canonwright import rules
from canonwright.houses import WAYS, house_of
from canonwright.rules import Above, Again, Back, Leap, Never, Range, Rule, Span, rule_of
from tests.reading import is_broken, voices_asked

NAMES = ("Span", "Leap", "Back", "Again", "Range", "Above", "Never")
TOLD = (("span", 1, 21), ("leap", 2), ("back", 3, 4), ("again", 2), ("range", -7, 9), ("above", 2, 0),
        ("never", 4, 0, "like"), ("never", 0, 4, "against"), ("never", 0, 0, "aside"), ("never", 1, 2, "any"))

# One follower, a beat late and four up.
LATE = house_of(7, 2, 7, [(1, 4, False)], [])
# The score of [0, 2, 6, 1]: [0, None], [2, 4], [6, 6], [1, 10].

# One two beats late and four up; one a beat late and upside down; one not late, upside down.
FOUR = house_of(7, 2, 7, [(2, 4, False), (1, 3, True), (0, -5, True)], [])
# The score of [0, 2, 6, 1]: [0, None, None, -5], [2, None, 3, -7], [6, 4, 1, -11], [1, 6, -3, -6].

LINE = [0, 2, 6, 1]


def bits(*spans):
    return sum(1 << k for k in spans)


class Asking(unittest.TestCase):
    def beats(self, house, line, rule):
        return [rule.broken(house, line, beat) for beat in range(len(line))]

    def holds(self, house, line, rule, right):
        self.assertEqual(self.beats(house, line, rule), right, (line, rule.told()))

    def by_the_line(self, line, rule, where):
        """Broken by () at just these beats, whatever the voices are."""
        for house in (LATE, FOUR):
            self.holds(house, line, rule, [[()] if beat in where else [] for beat in range(len(line))])


class SpanBroken(Asking):
    def test_on_its_beat_alone(self):
        self.holds(LATE, LINE, Span(1, bits(0)), [[], [(0, 1)], [], [(0, 1)]])
        self.holds(LATE, LINE, Span(1, bits(2)), [[], [], [], []])
        self.holds(LATE, LINE, Span(0, bits(2)), [[], [], [(0, 1)], []])
        self.holds(LATE, LINE, Span(0, bits(0)), [[], [], [], []])

    def test_all_spans_and_none(self):
        self.holds(LATE, LINE, Span(1, bits(*range(7))), [[], [], [], []])
        self.holds(LATE, LINE, Span(1, 0), [[], [(0, 1)], [], [(0, 1)]])

    def test_all_spans_but_the_one(self):
        self.holds(LATE, LINE, Span(1, bits(0, 1, 3, 4, 5, 6)), [[], [(0, 1)], [], [(0, 1)]])

    def test_a_silent_voice_has_no_span(self):
        self.holds(LATE, [3], Span(0, 0), [[]])
        self.holds(FOUR, [3], Span(0, 0), [[(0, 3)]])

    def test_each_pair_of_voices(self):
        self.holds(FOUR, LINE, Span(0, bits(3, 5)), [[], [], [(0, 1), (1, 3)], []])
        self.holds(FOUR, LINE, Span(1, bits(2, 3)), [[], [(0, 2)], [], [(0, 1), (0, 2), (0, 3), (1, 3)]])
        self.holds(FOUR, LINE, Span(0, 0), [[(0, 3)], [], [(0, 1), (0, 2), (0, 3), (1, 2), (1, 3), (2, 3)], []])

    def test_a_bar_of_one_and_of_four_beats(self):
        one = house_of(2, 1, 2, [(0, 1, False)], [])
        self.holds(one, [0, 1, 0], Span(0, bits(0)), [[(0, 1)]] * 3)
        four = house_of(2, 4, 2, [(0, 1, False)], [])
        self.holds(four, [0] * 9, Span(3, bits(0)), [[], [], [], [(0, 1)], [], [], [], [(0, 1)], []])


class LeapBroken(Asking):
    def test_up_and_down(self):
        self.by_the_line([0, 2, 5, 5, 3, 0], Leap(2), (2, 5))
        self.by_the_line([0, 2, 5, 5, 3, 0], Leap(3), ())
        self.by_the_line([0, 2, 5, 5, 3, 0], Leap(1), (1, 2, 4, 5))

    def test_least_and_most(self):
        self.by_the_line([1, 1, 2, 2, 1], Leap(0), (2, 4))
        self.by_the_line([0, 6, 0, 6], Leap(12), ())

    def test_the_first_beat(self):
        self.by_the_line([6], Leap(0), ())
        # The last note isn't the one ahead of the first.
        self.by_the_line([6, 6, 0], Leap(0), (2,))


class BackBroken(Asking):
    def test_behind_a_leap_up(self):
        for last, right in ((0, True), (1, False), (2, False), (3, True), (4, True), (6, True)):
            self.by_the_line([0, 3, last], Back(3, 2), (2,) if right else ())

    def test_behind_a_leap_down(self):
        for last, right in ((0, True), (3, True), (4, False), (5, False), (6, True)):
            self.by_the_line([6, 3, last], Back(3, 2), (2,) if right else ())

    def test_how_far_is_a_leap(self):
        self.by_the_line([0, 2, 4], Back(3, 2), ())
        self.by_the_line([0, 3, 6], Back(3, 2), (2,))
        self.by_the_line([0, 4, 6], Back(3, 2), (2,))
        self.by_the_line([0, 1, 2], Back(1, 12), (2,))
        self.by_the_line([0, 0, 2], Back(1, 12), ())

    def test_the_first_beats(self):
        self.by_the_line([0], Back(1, 1), ())
        self.by_the_line([0, 6], Back(1, 1), ())
        # The last notes aren't those ahead of the first.
        self.by_the_line([0, 0, 6], Back(1, 1), ())

    def test_on_and_on(self):
        self.by_the_line([0, 4, 3, 3, 0, 0, 0, 1], Back(3, 2), (5,))
        self.by_the_line([0, 4, 1, 2, 5, 4, 4], Back(3, 2), (2,))


class AgainBroken(Asking):
    def test_most_one(self):
        self.by_the_line([0, 0, 1, 1, 1, 0], Again(1), (1, 3, 4))

    def test_most_two(self):
        self.by_the_line([1, 1, 1, 1, 0, 0, 1, 0, 0, 0], Again(2), (2, 3, 9))

    def test_most_three(self):
        self.by_the_line([0, 0, 0, 0, 1, 0, 0, 0], Again(3), (3,))
        self.by_the_line([2, 2, 2, 2, 2, 2], Again(3), (3, 4, 5))

    def test_one_unlike_note(self):
        for line in ([1, 0, 0, 0], [0, 1, 0, 0], [0, 0, 1, 0], [0, 0, 0, 1]):
            self.by_the_line(line, Again(3), ())

    def test_the_first_beats(self):
        for most in (1, 2, 3):
            self.by_the_line([5] * most, Again(most), ())
            self.by_the_line([5] * (most + 1), Again(most), (most,))


class RangeBroken(Asking):
    def test_each_voice_at_its_edges(self):
        self.holds(FOUR, LINE, Range(-5, 6), [[], [(3,)], [(3,)], [(3,)]])
        self.holds(FOUR, LINE, Range(-4, 5), [[(3,)], [(3,)], [(0,), (3,)], [(1,), (3,)]])
        self.holds(FOUR, LINE, Range(-11, 6), [[], [], [], []])
        self.holds(FOUR, LINE, Range(-10, 6), [[], [], [(3,)], []])

    def test_all_voices_at_once(self):
        self.holds(FOUR, LINE, Range(60, 60), [[(0,), (3,)], [(0,), (2,), (3,)]] + [[(0,), (1,), (2,), (3,)]] * 2)
        self.holds(FOUR, LINE, Range(-60, 60), [[], [], [], []])

    def test_a_silent_voice_is_in_each_range(self):
        self.holds(LATE, LINE, Range(0, 6), [[], [], [], [(1,)]])
        self.holds(LATE, LINE, Range(4, 10), [[(0,)], [(0,)], [], [(0,)]])

    def test_a_range_of_one_pitch(self):
        self.holds(LATE, [4, 4, 0], Range(4, 4), [[], [(1,)], [(0,), (1,)]])


class AboveBroken(Asking):
    def test_told_in_the_rules_own_order(self):
        self.holds(FOUR, LINE, Above(0, 1), [[], [], [], [(0, 1)]])
        self.holds(FOUR, LINE, Above(1, 0), [[], [], [(1, 0)], []])
        self.holds(FOUR, LINE, Above(3, 2), [[], [(3, 2)], [(3, 2)], [(3, 2)]])
        self.holds(FOUR, LINE, Above(2, 3), [[], [], [], []])

    def test_the_same_pitch_is_not_below(self):
        self.holds(LATE, LINE, Above(0, 1), [[], [(0, 1)], [], [(0, 1)]])
        self.holds(LATE, LINE, Above(1, 0), [[], [], [], []])

    def test_one_step_below(self):
        house = house_of(7, 1, 7, [(0, 1, False)], [])
        self.holds(house, [0, 6], Above(0, 1), [[(0, 1)], [(0, 1)]])
        self.holds(house, [0, 6], Above(1, 0), [[], []])

    def test_a_silent_voice_is_nowhere(self):
        self.holds(FOUR, [6, 6], Above(1, 3), [[], []])
        self.holds(FOUR, [6, 6], Above(3, 1), [[], []])
        self.holds(FOUR, [6, 6], Above(3, 2), [[], [(3, 2)]])


class NeverBroken(Asking):
    plain = house_of(7, 1, 7, [(0, 4, False)], [])
    turned = house_of(7, 1, 7, [(0, 6, True)], [])
    late = house_of(7, 1, 7, [(1, 2, False)], [])

    def at(self, house, line, rule, where):
        self.holds(house, line, rule, [[(0, 1)] if beat in where else [] for beat in range(len(line))])

    def test_both_move_alike(self):
        line = [0, 1, 1, 0]
        self.at(self.plain, line, Never(4, 4, "like"), (1, 3))
        self.at(self.plain, line, Never(4, 4, "against"), ())
        self.at(self.plain, line, Never(4, 4, "aside"), ())
        self.at(self.plain, line, Never(4, 4, "any"), (1, 2, 3))

    def test_both_move_against(self):
        # [1, 5], [2, 4], [2, 4], [1, 5]: the spans 4, 2, 2, 4.
        line = [1, 2, 2, 1]
        self.at(self.turned, line, Never(4, 2, "against"), (1,))
        self.at(self.turned, line, Never(2, 4, "against"), (3,))
        self.at(self.turned, line, Never(2, 2, "against"), ())
        self.at(self.turned, line, Never(4, 2, "any"), (1,))
        self.at(self.turned, line, Never(2, 2, "any"), (2,))
        for way in ("like", "aside"):
            for one, other in ((4, 2), (2, 2), (2, 4)):
                self.at(self.turned, line, Never(one, other, way), ())

    def test_just_one_moves(self):
        # [0, None], [0, 2], [1, 2], [1, 3], [3, 3]: the spans 2, 1, 2, 0 from beat 1 on.
        line = [0, 0, 1, 1, 3]
        self.at(self.late, line, Never(2, 1, "aside"), (2,))
        self.at(self.late, line, Never(1, 2, "aside"), (3,))
        self.at(self.late, line, Never(2, 0, "aside"), (4,))
        self.at(self.late, line, Never(2, 0, "any"), (4,))
        for way in ("like", "against"):
            for one, other in ((2, 1), (1, 2), (2, 0)):
                self.at(self.late, line, Never(one, other, way), ())

    def test_unlike_steps_the_same_way(self):
        # [0, None], [1, 2], [3, 3], [2, 5], [0, 4]: the spans 1, 0, 3, 4 from beat 1 on.
        line = [0, 1, 3, 2, 0]
        self.at(self.late, line, Never(1, 0, "like"), (2,))
        self.at(self.late, line, Never(0, 3, "against"), (3,))
        self.at(self.late, line, Never(3, 4, "like"), (4,))
        self.at(self.late, line, Never(0, 1, "like"), ())
        self.at(self.late, line, Never(3, 0, "against"), ())

    def test_both_sound_at_both_beats(self):
        for way in WAYS:
            self.at(self.late, [0, 0], Never(2, 2, way), ())
            self.at(self.plain, [0], Never(4, 4, way), ())
        self.at(self.late, [0, 0, 0], Never(2, 2, "any"), (2,))
        # The last beat isn't the one ahead of the first.
        self.at(self.plain, [0, 1], Never(4, 4, "any"), (1,))

    def test_each_pair_of_voices(self):
        house = house_of(7, 1, 7, [(0, 7, False), (1, 0, False), (0, -7, False)], [])
        every = [(0, 1), (0, 2), (0, 3), (1, 2), (1, 3), (2, 3)]
        without_the_late = [(0, 1), (0, 3), (1, 3)]
        self.holds(house, [3, 3, 3], Never(0, 0, "any"), [[], without_the_late, every])
        self.holds(house, [3, 4, 5], Never(0, 0, "like"), [[], without_the_late, without_the_late])
        self.holds(house, [3, 4, 5], Never(1, 1, "like"), [[], [], [(0, 2), (1, 2)]])


class AllSmallLines(unittest.TestCase):
    houses = (
        house_of(3, 2, 3, [(0, 0, False)], []),
        house_of(3, 2, 3, [(1, 2, True)], []),
        house_of(3, 3, 3, [(1, 1, False), (0, -1, True)], []),
        house_of(3, 1, 3, [(2, 0, True), (1, -2, False), (3, 4, False)], []),
        house_of(3, 4, 3, [(4, -1, True), (0, 2, True), (2, 12, False)], []),
    )

    def rules(self, house):
        yield from [("span", beat, spans) for beat in range(house[1]) for spans in range(8)]
        yield from [("leap", most) for most in (0, 1, 2)]
        yield from [("back", leap, most) for leap in (1, 2) for most in (1, 2)]
        yield from [("again", most) for most in (1, 2, 3)]
        yield from [("range", low, high) for low, high in ((0, 0), (0, 1), (-2, 2), (1, 12), (-60, 60))]
        yield from [("above", *pair) for pair in itertools.permutations(range(len(house[3]) + 1), 2)]
        yield from [("never", one, other, way) for one in range(3) for other in range(3) for way in WAYS]

    def test_each_beat_of_each_line(self):
        lines = [list(line) for many in range(1, 6) for line in itertools.product(range(3), repeat=many)]
        for house in self.houses:
            for rule in self.rules(house):
                asked = voices_asked(house, rule[0])
                made = rule_of(rule)
                for line in lines:
                    beat = len(line) - 1
                    right = [voices for voices in asked if is_broken(house, line, beat, rule, voices)]
                    if made.broken(house, line, beat) != right:
                        self.fail((house, rule, line, beat, right))

    def test_the_notes_behind_the_beat_do_not_matter(self):
        for house in self.houses:
            for rule in self.rules(house):
                made = rule_of(rule)
                for line in ([0, 2, 1, 1, 1, 0], [2, 0, 0, 1, 2, 2], [1, 1, 1, 1, 1, 1]):
                    for beat in range(6):
                        for tail in ([], [0], [2, 1], [1, 1, 2, 0, 0]):
                            whole = line[:beat + 1] + tail
                            self.assertEqual(made.broken(house, whole, beat), made.broken(house, line[:beat + 1], beat))


class Objects(unittest.TestCase):
    def test_each_stands_straight_under_rule(self):
        for name in NAMES:
            self.assertEqual(getattr(rules, name).__bases__, (Rule,), name)

    def test_told_is_the_rule(self):
        made = (Span(1, 21), Leap(2), Back(3, 4), Again(2), Range(-7, 9), Above(2, 0), Never(4, 0, "like"))
        for rule, right in zip(made, TOLD):
            self.assertEqual(rule.told(), right)
            self.assertIs(type(rule.told()), tuple)

    def test_the_parts_are_kept_under_their_names(self):
        for rule, names in ((Span(1, 21), ("beat", "spans")), (Leap(2), ("most",)), (Back(3, 4), ("leap", "most")),
                            (Again(2), ("most",)), (Range(-7, 9), ("low", "high")), (Above(2, 0), ("one", "other")),
                            (Never(4, 0, "like"), ("one", "other", "way"))):
            self.assertEqual(rule.told()[1:], tuple(getattr(rule, name) for name in names))

    def test_rule_of_makes_the_class_so_called(self):
        for rule in TOLD:
            made = rule_of(rule)
            self.assertIs(type(made), getattr(rules, rule[0].capitalize()))
            self.assertIsInstance(made, Rule)
            self.assertEqual(made.told(), rule)

    def test_rule_of_makes_a_new_one(self):
        for rule in TOLD:
            self.assertIsNot(rule_of(rule), rule_of(rule))


class Lists(unittest.TestCase):
    samples = tuple(rule for rule in TOLD) + (("span", 0, 0), ("leap", 0), ("back", 1, 1), ("again", 1),
                                              ("range", 60, 60), ("above", 0, 1), ("never", 2, 5, "any"))

    def test_the_told_lists_are_the_askers_own(self):
        for rule in self.samples:
            made = rule_of(rule)
            for line in (LINE, [3, 3, 3, 3]):
                for beat in range(4):
                    told = made.broken(FOUR, line, beat)
                    right = list(told)
                    self.assertIs(type(told), list)
                    self.assertEqual([type(voices) for voices in told], [tuple] * len(told))
                    told.append("more")
                    self.assertEqual(made.broken(FOUR, line, beat), right)
                    self.assertEqual(rule_of(rule).broken(FOUR, line, beat), right)

    def test_the_line_stays(self):
        for rule in self.samples:
            line = list(LINE)
            for beat in range(4):
                rule_of(rule).broken(FOUR, line, beat)
            self.assertEqual(line, LINE)

    def test_a_rule_that_the_house_has_not_is_asked_all_the_same(self):
        with_others = house_of(7, 2, 7, list(FOUR[3]), [("leap", 12), ("again", 3)])
        for rule in self.samples:
            for beat in range(4):
                self.assertEqual(rule_of(rule).broken(with_others, LINE, beat), rule_of(rule).broken(FOUR, LINE, beat))


if __name__ == "__main__":
    unittest.main()
