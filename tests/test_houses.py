"""What a follower and a rule are, how a house is made, and in which order it is refused."""

import copy
import itertools
import unittest

from canonwright import errors
from canonwright.errors import CanonError, NoHouse, NoRule, NoVoice
from canonwright.houses import NOTES, RULES, VOICES, WAYS, house_of, is_follower, is_rule

GREAT = int("9" * 60)

# None of these is a whole number.
NO_WHOLES = (True, False, None, "", "1", 1.0, 0.5, [], [1], (), (1,), {}, {1: 1}, {1}, b"1", object(), int)
# None of these is a truth.
NO_TRUTHS = (0, 1, 2, -1, None, "", "True", "turned", 0.0, [], [True], (), (False,), {}, object(), bool)
# None of these is a tuple.
NO_TUPLES = (None, True, False, 0, 1, -1, GREAT, "", "leap", "abc", 1.5, [], {}, set(), b"abc", object(), tuple, len)

PLAIN = (1, 0, False)


class LikeAll:
    """A thing that says of itself that it is like any other."""

    def __eq__(self, other):
        return True

    def __hash__(self):
        return 0


class Always(unittest.TestCase):
    """Told are True and False themselves, not things that count as them."""

    def yes(self, told, *about):
        self.assertIs(told, True, about)

    def no(self, told, *about):
        self.assertIs(told, False, about)


class Ways(unittest.TestCase):
    def test_the_words_in_their_order(self):
        self.assertEqual(WAYS, ("like", "against", "aside", "any"))
        self.assertIsInstance(WAYS, tuple)


class Follower(Always):
    def test_each_within(self):
        for late in range(0, 5):
            for shift in range(-12, 13):
                for turned in (True, False):
                    self.yes(is_follower((late, shift, turned)), late, shift, turned)

    def test_late_beyond(self):
        for late in (-1, 5, 6, -GREAT, GREAT):
            self.no(is_follower((late, 0, False)), late)

    def test_shift_beyond(self):
        for shift in (-13, 13, 14, -14, -GREAT, GREAT):
            self.no(is_follower((0, shift, False)), shift)

    def test_no_whole_numbers(self):
        for thing in NO_WHOLES:
            self.no(is_follower((thing, 0, False)), thing)
            self.no(is_follower((0, thing, False)), thing)

    def test_no_truth(self):
        for thing in NO_TRUTHS + (GREAT,):
            self.no(is_follower((0, 0, thing)), thing)

    def test_more_and_fewer_parts(self):
        for thing in ((), (0,), (0, 0), (0, 0, False, False), (0, 0, False, 0), (0, 0, 0, False)):
            self.no(is_follower(thing), thing)

    def test_no_tuple(self):
        for thing in NO_TUPLES + ([0, 0, False], {0: 0, 1: 0, 2: False}, [(0, 0, False)]):
            self.no(is_follower(thing), thing)

    def test_other_order_and_a_tuple_within(self):
        for thing in ((False, 0, 0), (0, False, 0), ((0, 0, False),), ((0, 0, False), 0, False)):
            self.no(is_follower(thing), thing)


BAR = 3
OCTAVE = 5
MANY = 2

# A rule of each kind, and for each whole number in it: its place, its least and its greatest value.
RANGES = (
    (("span", 1, 7), ((1, 0, BAR - 1), (2, 0, (1 << OCTAVE) - 1))),
    (("leap", 3), ((1, 0, 12),)),
    (("back", 3, 2), ((1, 1, 12), (2, 1, 12))),
    (("again", 2), ((1, 1, 3),)),
    (("range", -60, 60), ((1, -60, 60), (2, -60, 60))),
    (("never", 1, 2, "any"), ((1, 0, OCTAVE - 1), (2, 0, OCTAVE - 1))),
)
ABOVE = ("above", 0, 1)
SAMPLES = tuple(rule for rule, ranges in RANGES) + (ABOVE,)


def changed(rule, place, thing):
    return rule[:place] + (thing,) + rule[place + 1:]


class RuleOf(Always):
    def asked(self, thing):
        return is_rule(BAR, OCTAVE, MANY, thing)

    def test_samples(self):
        for rule in SAMPLES:
            self.yes(self.asked(rule), rule)

    def test_each_edge(self):
        for rule, ranges in RANGES:
            for place, low, high in ranges:
                for within in (low, low + 1, high - 1, high):
                    self.yes(self.asked(changed(rule, place, within)), rule, place, within)
                for beyond in (low - 1, high + 1, -GREAT, GREAT):
                    self.no(self.asked(changed(rule, place, beyond)), rule, place, beyond)

    def test_no_whole_numbers(self):
        for rule in SAMPLES:
            for place in range(1, 2 if len(rule) == 2 else 3):
                for thing in NO_WHOLES:
                    self.no(self.asked(changed(rule, place, thing)), rule, place, thing)

    def test_true_and_false_are_no_numbers_at_the_edges(self):
        for thing in (("span", False, 7), ("span", 1, True), ("leap", True), ("leap", False), ("back", True, 1),
                      ("back", 1, True), ("again", True), ("range", False, True), ("range", 0, True),
                      ("range", False, 1), ("above", False, True), ("above", True, 0), ("above", 0, True),
                      ("never", False, 1, "any"), ("never", 1, True, "any")):
            self.no(self.asked(thing), thing)

    def test_more_and_fewer_parts(self):
        for rule in SAMPLES:
            for more in (0, 1, "any", None, False):
                self.no(self.asked(rule + (more,)), rule, more)
            for many in range(len(rule)):
                self.no(self.asked(rule[:many]), rule, many)
            self.no(self.asked(rule[1:]), rule)

    def test_no_tuple(self):
        for rule in SAMPLES:
            self.no(self.asked(list(rule)), rule)
            self.no(self.asked([rule]), rule)
            self.no(self.asked((rule,)), rule)
            self.no(self.asked(rule[0]), rule)
            self.no(self.asked({rule[0]: rule[1:]}), rule)
        for thing in NO_TUPLES:
            self.no(self.asked(thing), thing)

    def test_words_that_are_no_rules(self):
        words = ("", "Span", "LEAP", "leap ", " leap", "leaps", "lea", "turn", "like", "any", "voice", "notes", "x" * 2000)
        for word in words + NO_WHOLES + (0, 1, GREAT, ("leap",), ["leap"], b"leap"):
            for rule in SAMPLES:
                self.no(self.asked(changed(rule, 0, word)), word, rule)

    def test_each_way(self):
        for way in ("like", "against", "aside", "any"):
            self.yes(self.asked(("never", 0, 0, way)), way)

    def test_words_that_are_no_ways(self):
        for way in ("", "Like", "ANY", "any ", " any", "an", "up", "down", "never", "likeagainst"):
            self.no(self.asked(("never", 0, 0, way)), way)
        for way in NO_WHOLES + (0, 1, GREAT, ("any",), ["any"], WAYS, b"any"):
            self.no(self.asked(("never", 0, 0, way)), way)

    def test_a_thing_that_is_like_any_word_is_none(self):
        self.no(self.asked((LikeAll(), 1)))
        self.no(self.asked((LikeAll(), 1, 2)))
        self.no(self.asked(("never", 0, 0, LikeAll())))

    def test_never_may_name_the_same_span_twice(self):
        for number in range(OCTAVE):
            self.yes(self.asked(("never", number, number, "like")), number)

    def test_range_has_its_low_at_most_its_high(self):
        for low, high in ((-60, -60), (0, 0), (60, 60), (-60, 60), (4, 5), (-5, -4)):
            self.yes(self.asked(("range", low, high)), low, high)
        for low, high in ((60, -60), (1, 0), (5, 4), (-4, -5)):
            self.no(self.asked(("range", low, high)), low, high)

    def test_above_names_two_unlike_voices(self):
        for many in (1, 2, 3):
            for one, other in itertools.product(range(-2, many + 3), repeat=2):
                right = 0 <= one <= many and 0 <= other <= many and one != other
                self.assertIs(is_rule(BAR, OCTAVE, many, ("above", one, other)), right, (many, one, other))

    def test_above_of_great_numbers(self):
        for great in (GREAT, -GREAT):
            self.no(self.asked(("above", 0, great)))
            self.no(self.asked(("above", great, 0)))


class Bounds(Always):
    def test_the_beat_of_span_hangs_on_the_bar(self):
        for bar in (1, 2, 3, 4):
            for beat in range(-1, 6):
                self.assertIs(is_rule(bar, 7, 1, ("span", beat, 1)), 0 <= beat < bar, (bar, beat))

    def test_the_spans_hang_on_the_octave(self):
        for octave in range(1, 13):
            for spans in (0, 1, (1 << octave) - 1):
                self.yes(is_rule(1, octave, 1, ("span", 0, spans)), octave, spans)
            for spans in (-1, 1 << octave, (1 << octave) + 1, -(1 << octave), GREAT):
                self.no(is_rule(1, octave, 1, ("span", 0, spans)), octave, spans)

    def test_the_spans_of_never_hang_on_the_octave(self):
        for octave in range(1, 13):
            self.yes(is_rule(1, octave, 1, ("never", octave - 1, 0, "any")), octave)
            self.yes(is_rule(1, octave, 1, ("never", 0, octave - 1, "any")), octave)
            self.no(is_rule(1, octave, 1, ("never", octave, 0, "any")), octave)
            self.no(is_rule(1, octave, 1, ("never", 0, octave, "any")), octave)

    def test_all_else_hangs_on_nothing(self):
        for bar, octave, many in ((1, 1, 1), (4, 12, 3)):
            for rule in (("leap", 12), ("leap", 0), ("back", 12, 12), ("again", 3), ("range", -60, 60)):
                self.yes(is_rule(bar, octave, many, rule), bar, octave, many, rule)


class HouseOf(unittest.TestCase):
    def test_what_is_told(self):
        told = house_of(5, 2, 7, [(1, 4, False), (2, -3, True)], [("leap", 2), ("span", 1, 21), ("leap", 2)])
        right = (5, 2, 7, ((1, 4, False), (2, -3, True)), (("leap", 2), ("span", 1, 21), ("leap", 2)))
        self.assertEqual(told, right)

    def test_tuples_all_through(self):
        told = house_of(7, 3, 5, [(1, 4, False), (2, -3, True)], list(SAMPLES))
        self.assertIs(type(told), tuple)
        for inner in told[3:]:
            self.assertIs(type(inner), tuple)
            for thing in inner:
                self.assertIs(type(thing), tuple)
        for number in told[:3]:
            self.assertIs(type(number), int)
        self.assertIs(told[3][0][2], False)
        self.assertIs(told[3][1][2], True)
        hash(told)

    def test_its_parts_stand_where_their_names_say(self):
        told = house_of(5, 2, 7, [PLAIN], [("leap", 2)])
        self.assertEqual((told[NOTES], told[VOICES], told[RULES]), (5, (PLAIN,), (("leap", 2),)))

    def test_without_rules(self):
        self.assertEqual(house_of(1, 1, 1, [(0, 0, False)], []), (1, 1, 1, ((0, 0, False),), ()))

    def test_each_number_in_its_range(self):
        for notes in range(1, 8):
            self.assertEqual(house_of(notes, 1, 1, [PLAIN], [])[0], notes)
        for bar in range(1, 5):
            self.assertEqual(house_of(1, bar, 1, [PLAIN], [])[1], bar)
        for octave in range(1, 13):
            self.assertEqual(house_of(1, 1, octave, [PLAIN], [])[2], octave)

    def test_each_count(self):
        for many in (1, 2, 3):
            self.assertEqual(house_of(1, 1, 1, [PLAIN] * many, [])[3], (PLAIN,) * many)
        for many in range(0, 9):
            self.assertEqual(house_of(1, 1, 1, [PLAIN], [("leap", 1)] * many)[4], (("leap", 1),) * many)

    def test_the_lists_stay(self):
        voices = [(1, 4, False), (2, -3, True)]
        rules = [("leap", 2), ("above", 0, 1)]
        before = copy.deepcopy((voices, rules))
        house_of(5, 2, 7, voices, rules)
        self.assertEqual((voices, rules), before)

    def test_the_lists_stay_where_it_is_refused(self):
        voices = [(1, 4, False), [2, -3, True]]
        rules = [("leap", 2), ["above", 0, 1]]
        before = copy.deepcopy((voices, rules))
        with self.assertRaises(NoVoice):
            house_of(5, 2, 7, voices, rules)
        self.assertEqual((voices, rules), before)

    def test_the_lists_changed_behind_the_call(self):
        voices = [(1, 4, False)]
        rules = [("leap", 2)]
        told = house_of(5, 2, 7, voices, rules)
        voices.append((0, 0, True))
        voices[0] = None
        rules.clear()
        right = (5, 2, 7, ((1, 4, False),), (("leap", 2),))
        self.assertEqual(told, right)
        self.assertEqual(house_of(5, 2, 7, [(1, 4, False)], [("leap", 2)]), right)

    def test_the_bounds_of_its_rules_are_its_own(self):
        house_of(2, 4, 12, [PLAIN] * 3, [("span", 3, 4095), ("above", 3, 0), ("never", 11, 11, "aside")])
        for rule in (("span", 2, 0), ("span", 0, 8), ("above", 2, 0), ("never", 3, 0, "any")):
            with self.assertRaises(NoRule):
                house_of(2, 2, 3, [PLAIN], [rule])


class Refused(unittest.TestCase):
    def refusal(self, *parts):
        with self.assertRaises(CanonError) as caught:
            house_of(*parts)
        return caught.exception

    def is_alone(self, error, kind):
        self.assertIs(type(error), kind)
        self.assertIsInstance(error, ValueError)
        for name in ("NoHouse", "NoVoice", "NoRule", "Broken", "TooMany", "NoNumber", "Unlike", "NoText", "NoRow", "NoNote"):
            self.assertEqual(isinstance(error, getattr(errors, name)), name == kind.__name__)

    def test_numbers_beyond(self):
        for notes in (0, 8, -1, GREAT, -GREAT):
            self.is_alone(self.refusal(notes, 1, 1, [PLAIN], []), NoHouse)
        for bar in (0, 5, -1, GREAT, -GREAT):
            self.is_alone(self.refusal(1, bar, 1, [PLAIN], []), NoHouse)
        for octave in (0, 13, -1, GREAT, -GREAT):
            self.is_alone(self.refusal(1, 1, octave, [PLAIN], []), NoHouse)

    def test_counts_beyond(self):
        for many in (0, 4, 5, 400):
            self.is_alone(self.refusal(1, 1, 1, [PLAIN] * many, []), NoHouse)
        for many in (9, 10, 400):
            self.is_alone(self.refusal(1, 1, 1, [PLAIN], [("leap", 1)] * many), NoHouse)

    def test_no_followers(self):
        for thing in NO_TUPLES + ([1, 0, False], (5, 0, False), (1, 13, False), (1, 0, 0), (1, 0), ("leap", 1)):
            error = self.refusal(1, 1, 1, [thing], [])
            self.is_alone(error, NoVoice)
            self.assertEqual(error.number, 1)

    def test_the_first_that_is_no_follower(self):
        for wrong in ((1,), (2,), (3,), (1, 2), (1, 3), (2, 3), (1, 2, 3)):
            voices = [None if number in wrong else PLAIN for number in (1, 2, 3)]
            error = self.refusal(1, 1, 1, voices, [])
            self.is_alone(error, NoVoice)
            self.assertEqual(error.number, wrong[0])

    def test_no_rules(self):
        for thing in NO_TUPLES + (["leap", 1], ("leap", 13), ("span", 1, 0), ("above", 0, 2), (0, 0, False), ("leap",)):
            error = self.refusal(1, 1, 1, [PLAIN], [thing])
            self.is_alone(error, NoRule)
            self.assertEqual(error.number, 0)

    def test_the_first_that_is_no_rule(self):
        for first in range(8):
            for second in range(first, 8):
                rules = [("leap", 1)] * 8
                rules[first] = ("leap", -1)
                rules[second] = None
                error = self.refusal(1, 1, 1, [PLAIN], rules)
                self.is_alone(error, NoRule)
                self.assertEqual(error.number, first)

    def test_numbers_go_ahead_of_voices_and_rules(self):
        for frame in ((0, 1, 1), (8, 1, 1), (1, 0, 1), (1, 5, 1), (1, 1, 0), (1, 1, 13)):
            self.is_alone(self.refusal(*frame, [None], [None]), NoHouse)
            self.is_alone(self.refusal(*frame, [None], []), NoHouse)
            self.is_alone(self.refusal(*frame, [PLAIN], [None]), NoHouse)

    def test_counts_go_ahead_of_voices_and_rules(self):
        self.is_alone(self.refusal(1, 1, 1, [None] * 4, []), NoHouse)
        self.is_alone(self.refusal(1, 1, 1, [], [None]), NoHouse)
        self.is_alone(self.refusal(1, 1, 1, [None], [("leap", 1)] * 9), NoHouse)
        self.is_alone(self.refusal(1, 1, 1, [PLAIN], [None] * 9), NoHouse)

    def test_voices_go_ahead_of_rules(self):
        error = self.refusal(1, 1, 1, [PLAIN, PLAIN, None], [None])
        self.is_alone(error, NoVoice)
        self.assertEqual(error.number, 3)


if __name__ == "__main__":
    unittest.main()
