"""Two houses told alike or apart, the pairs that show it, a house less a rule, and whether a rule is needed."""

import copy
import random
import unittest

from canonwright.compare import compared, less, needed, shows_alike
from canonwright.errors import CanonError, NoNumber, TooMany, Unlike
from canonwright.houses import house_of
from canonwright.judging import is_let_by
from canonwright.stands import behind, come, nexts
from tests.reading import (all_lists, apart_read, breaks_read, compared_read, made_houses, made_rule, pairs_read,
                           stand_read)

GREAT = 10 ** 59
START = ((0, ()), (0, ()))
PLAIN = [(0, 0, False)]

FREE = house_of(2, 1, 12, PLAIN, [])
CHANGING = house_of(2, 1, 12, PLAIN, [("again", 1)])
STILL = house_of(2, 1, 12, PLAIN, [("leap", 0)])
# No note can be sung: the line without notes is all there is.
MUTE = house_of(2, 1, 12, PLAIN, [("range", 60, 60)])
EVERY = house_of(4, 2, 8, [(1, 2, False), (2, 6, True)],
                 [("span", 1, 247), ("leap", 2), ("back", 2, 2), ("again", 2), ("range", 0, 5), ("above", 2, 1),
                  ("never", 2, 3, "aside"), ("never", 0, 3, "any")])

TWICE_LATE = house_of(2, 3, 8, [(2, 7, False)], [("above", 1, 0), ("again", 1)])
THRICE_LATE = house_of(2, 2, 3, [(3, 0, True), (1, 9, True)], [("never", 0, 1, "any"), ("again", 1)])

# Just 150 pairs, and 151: alike, and apart.
ALIKE_150 = (house_of(3, 4, 8, [(3, -6, False), (2, 9, True)], [("leap", 2), ("span", 2, 183), ("leap", 1), ("leap", 2)]),
             house_of(3, 4, 8, [(3, -6, False), (2, 9, True)], [("leap", 2), ("span", 2, 183), ("leap", 1)]))
ALIKE_151 = (house_of(3, 2, 6, [(0, 1, True), (0, 12, False), (2, -11, True)], [("back", 2, 1)]),
             house_of(3, 3, 6, [(0, 1, True), (0, 12, False), (2, -11, True)], [("back", 2, 1)]))
APART_150 = (house_of(3, 1, 7, [(4, 3, False), (1, 4, True)], [("span", 0, 126)]),
             house_of(3, 1, 7, [(4, 3, False), (2, 4, True)], [("span", 0, 126)]))
APART_151 = (house_of(5, 3, 12, [(0, -2, True)], [("back", 2, 2), ("leap", 2), ("again", 3)]),
             house_of(5, 3, 12, [(0, -2, True)], [("range", -5, 9), ("back", 2, 2), ("leap", 2), ("again", 3)]))


def ruled(house, rules):
    return house_of(house[0], house[1], house[2], list(house[3]), list(rules))


def altered(draw, house):
    """A house with as many notes that is like it but for one thing."""
    notes, bar, octave, voices, rules = house
    voices, rules = list(voices), list(rules)
    choice = draw.randrange(6)
    if choice == 0 and rules:
        rules.pop(draw.randrange(len(rules)))
    elif choice == 1:
        rules.insert(draw.randrange(len(rules) + 1), made_rule(draw, bar, octave, len(voices)))
    elif choice == 2:
        draw.shuffle(rules)
    elif choice == 3:
        rules = [rule for rule in rules if rule[0] != "span"]
        bar = draw.randrange(1, 5)
    elif choice == 4:
        voices[0] = (draw.randrange(5), voices[0][1], voices[0][2])
    else:
        voices[-1] = (voices[-1][0], draw.randrange(-12, 13), not voices[-1][2])
    return house_of(notes, bar, octave, voices, rules)


def pairs_of_houses(seed, count, most_notes):
    draw = random.Random(seed)
    found = []
    for house in made_houses(seed, count, most_notes):
        other = altered(draw, house)
        found.append((house, other) if draw.random() < 0.5 else (other, house))
    return found


class Compared(unittest.TestCase):
    def alike(self, one, other):
        """Told alike, with the right pairs, and nothing to the contrary among short lines; the pairs are given back."""
        told = compared(one, other)
        self.assertIsInstance(told, tuple)
        self.assertEqual(len(told), 2)
        self.assertEqual(told[0], "alike")
        self.assertIsInstance(told[1], list)
        self.assertEqual(told[1], sorted(pairs_read(one, other)))
        self.assertIs(shows_alike(one, other, told[1]), True)
        most = 0
        while one[0] ** (most + 1) <= 600 and most < 8:
            most += 1
        self.assertIsNone(apart_read(one, other, most))
        return told[1]

    def apart(self, one, other, line, which):
        self.assertEqual(compared(one, other), ("apart", line, which))
        self.assertEqual(compared(other, one), ("apart", line, 3 - which))
        by = (breaks_read(one, line) == [], breaks_read(other, line) == [])
        self.assertEqual(by, (which == 1, which == 2))
        self.assertEqual((is_let_by(one, line), is_let_by(other, line)), by)

    def test_unlike(self):
        houses = [house_of(notes, 1, 12, PLAIN, [("range", 0, 0)]) for notes in range(1, 8)]
        for one in houses:
            for other in houses:
                if one[0] == other[0]:
                    self.alike(one, other)
                else:
                    with self.assertRaises(Unlike) as caught:
                        compared(one, other)
                    self.assertIs(type(caught.exception), Unlike)
                    self.assertIsInstance(caught.exception, CanonError)

    def test_unlike_goes_ahead_of_too_many(self):
        one, other = house_of(7, 4, 12, [(4, 0, False)], []), house_of(6, 4, 12, [(4, 0, False)], [])
        for house in (one, other):
            with self.assertRaises(TooMany):
                compared(house, house)
        for pair in ((one, other), (other, one)):
            with self.assertRaises(Unlike):
                compared(*pair)

    def test_unlike_goes_ahead_of_a_line(self):
        with self.assertRaises(Unlike):
            compared(FREE, house_of(3, 1, 12, PLAIN, [("again", 1)]))

    def test_a_house_with_itself(self):
        right = [START, ((1, (0,)), (1, (0,))), ((1, (1,)), (1, (1,))), ((2, (0, 1)), (2, (0, 1))),
                 ((2, (1, 0)), (2, (1, 0))), ((3, (0, 1, 0)), (3, (0, 1, 0))), ((3, (1, 0, 1)), (3, (1, 0, 1)))]
        self.assertEqual(compared(CHANGING, CHANGING), ("alike", right))
        for house in (FREE, CHANGING, STILL, MUTE, EVERY):
            pairs = self.alike(house, house)
            self.assertEqual(pairs, [(stand, stand) for stand in come(house, (0, ()))])

    def test_nothing_can_be_sung(self):
        self.assertEqual(compared(MUTE, MUTE), ("alike", [START]))
        self.apart(MUTE, FREE, [0], 2)
        self.apart(MUTE, STILL, [0], 2)
        self.assertEqual(compared(MUTE, house_of(2, 4, 1, [(4, 0, True)], [("range", -60, -60)])), ("alike", [START]))

    def test_with_other_stands(self):
        # The same lines, but another memory and another bar: the pairs' stands are unlike.
        other = house_of(2, 2, 5, [(3, 7, True)], [("again", 1)])
        pairs = self.alike(CHANGING, other)
        self.assertIn(((3, (0, 1, 0)), (4, (1, 0, 1, 0))), pairs)
        self.assertIn(((3, (0, 1, 0)), (5, (1, 0, 1, 0))), pairs)
        self.assertEqual(self.alike(other, CHANGING), sorted((second, first) for first, second in pairs))

    def test_with_its_rules_in_another_order(self):
        for rules in (EVERY[4][::-1], EVERY[4][3:] + EVERY[4][:3], sorted(EVERY[4])):
            self.alike(EVERY, ruled(EVERY, rules))

    def test_with_a_rule_twice(self):
        for rules in (EVERY[4][1:], EVERY[4][:7]):
            house = ruled(EVERY, rules)
            for rule in rules:
                self.alike(house, ruled(house, list(rules) + [rule]))
                self.alike(ruled(house, [rule] + list(rules)), house)

    def test_with_a_rule_more_that_forbids_at_once(self):
        self.apart(FREE, ruled(FREE, [("range", 1, 60)]), [0], 1)
        self.apart(FREE, ruled(FREE, [("range", -60, 0)]), [1], 1)
        self.apart(FREE, ruled(FREE, [("span", 0, 0)]), [0], 1)
        # Both voices sound at once there, and else never together.
        self.apart(house_of(2, 1, 12, [(0, 1, True)], []), house_of(2, 1, 12, [(0, 1, True)], [("above", 0, 1)]), [0], 1)

    def test_with_a_rule_more_that_forbids_later(self):
        self.apart(FREE, CHANGING, [0, 0], 1)
        self.apart(FREE, STILL, [0, 1], 1)
        self.apart(FREE, ruled(FREE, [("again", 3)]), [0, 0, 0, 0], 1)
        self.apart(FREE, ruled(FREE, [("back", 1, 1)]), [0, 1, 1], 1)
        late = [(4, -8, True), (0, -5, True)]
        self.apart(house_of(2, 4, 12, late, [("again", 3)]), house_of(2, 4, 12, late, [("again", 3), ("span", 3, 0b100000)]),
                   [0, 0, 0, 1], 1)
        self.apart(house_of(1, 4, 12, [(4, 5, False)], []), house_of(1, 4, 12, [(4, 5, False)], [("span", 3, 1)]),
                   [0] * 8, 1)
        house = house_of(2, 4, 5, [(4, -4, True)], [("again", 3), ("range", -5, 4)])
        self.apart(ruled(house, (("span", 3, 30),) + house[4]), house, [0, 0, 0, 1, 0, 0, 1, 0], 2)

    def test_with_a_rule_more_that_forbids_never(self):
        for house in (FREE, CHANGING, ruled(EVERY, EVERY[4][:7])):
            for rule in (("range", -60, 60), ("leap", 12), ("span", 0, (1 << house[2]) - 1), ("leap", 3), ("back", 12, 1),
                         ("range", -12, 12)):
                self.alike(house, ruled(house, house[4] + (rule,)))
                self.alike(ruled(house, (rule,) + house[4]), house)
        # What it forbids is forbidden by the others already.
        self.alike(CHANGING, ruled(CHANGING, [("again", 1), ("again", 2), ("again", 3)]))
        self.alike(STILL, ruled(STILL, [("leap", 0), ("leap", 1), ("back", 1, 1)]))

    def test_each_lets_lines_by_that_the_other_does_not(self):
        self.apart(CHANGING, STILL, [0, 0], 2)
        self.apart(STILL, ruled(STILL, [("back", 1, 1), ("range", 0, 0)]), [1], 1)
        one, other = house_of(3, 1, 12, PLAIN, [("range", 0, 1)]), house_of(3, 1, 12, PLAIN, [("range", 1, 2)])
        self.apart(one, other, [0], 1)
        self.assertEqual(compared(one, ruled(other, [("range", 0, 2), ("leap", 1), ("again", 2)])), ("apart", [2], 2))

    def test_fewer_notes_go_first(self):
        # [0, 0, 0] tells them apart too, and is less than [1, 1] as lists compare, but longer.
        one = house_of(2, 1, 12, [(1, 0, True)], [("again", 2)])
        other = house_of(2, 1, 12, [(1, 0, True)], [("span", 0, 0b011)])
        self.assertEqual((is_let_by(one, [0, 0, 0]), is_let_by(other, [0, 0, 0])), (False, True))
        self.apart(one, other, [1, 1], 1)
        house = house_of(2, 1, 12, PLAIN, [("range", 0, 0), ("again", 2)])
        self.apart(FREE, house, [1], 1)
        self.apart(house_of(2, 1, 12, PLAIN, [("range", 0, 0)]), ruled(FREE, [("again", 2), ("range", 0, 1)]), [1], 2)

    def test_of_as_many_the_first_as_lists_compare(self):
        self.apart(house_of(7, 1, 12, PLAIN, []), house_of(7, 1, 12, PLAIN, [("leap", 4), ("range", 0, 3)]), [4], 1)
        one, other = house_of(4, 1, 12, PLAIN, []), house_of(4, 1, 12, PLAIN, [("leap", 1)])
        self.apart(one, other, [0, 2], 1)
        self.apart(ruled(one, [("back", 1, 3)]), ruled(one, [("back", 2, 3)]), [0, 1, 1], 2)

    def test_the_last_note_may_be_any(self):
        one = house_of(7, 1, 12, PLAIN, [("range", 0, 6), ("leap", 0)])
        self.apart(one, ruled(one, [("range", 0, 5), ("leap", 0)]), [6], 1)

    def test_just_150(self):
        self.assertEqual(len(pairs_read(*ALIKE_150)), 150)
        self.assertEqual(len(self.alike(*ALIKE_150)), 150)
        self.assertEqual(len(pairs_read(*APART_150)), 150)
        self.apart(*APART_150, [2, 2], 2)
        own = house_of(5, 2, 9, [(1, -3, False), (2, 9, False)], [("back", 3, 1), ("again", 1)])
        self.assertEqual(len(self.alike(own, own)), 150)

    def too_many(self, one, other):
        for pair in ((one, other), (other, one)):
            with self.assertRaises(TooMany) as caught:
                compared(*pair)
            self.assertIs(type(caught.exception), TooMany)

    def test_151(self):
        self.assertEqual(len(pairs_read(*ALIKE_151)), 151)
        self.too_many(*ALIKE_151)
        own = house_of(3, 3, 11, [(1, 2, False), (3, -3, False)], [("leap", 1)])
        self.assertEqual(len(pairs_read(own, own)), 151)
        self.too_many(own, own)

    def test_too_many_where_a_line_tells_them_apart_early(self):
        self.assertEqual(len(pairs_read(*APART_151)), 151)
        self.assertEqual(apart_read(*APART_151, 1), ([4], 1))
        self.too_many(*APART_151)
        wide = house_of(7, 4, 12, [(4, 0, False)], [])
        self.too_many(wide, ruled(wide, [("range", 1, 60)]))
        self.too_many(wide, ruled(wide, [("leap", 5)]))

    def test_too_many_pairs_of_few_stands(self):
        for house in ALIKE_151:
            self.assertLessEqual(len(come(house, (0, ()))), 150)

    def test_few_pairs_of_too_many_stands(self):
        low, high = house_of(7, 4, 12, PLAIN, [("range", 0, 3)]), house_of(7, 4, 12, PLAIN, [("range", 3, 6)])
        for house in (low, high):
            with self.assertRaises(TooMany):
                come(house, (0, ()))
        self.apart(low, high, [0], 1)
        # Behind the line that tells them apart as many may come as like.
        self.apart(house_of(7, 4, 12, [(4, 0, False)], []), house_of(7, 4, 12, [(4, 0, False)], [("range", 60, 60)]), [0], 1)

    def test_few_notes_gone_through_one_by_one(self):
        kinds = {}
        for one, other in pairs_of_houses(21, 90, 3):
            if len(pairs_read(one, other)) > 150:
                continue
            told = compared(one, other)
            kinds[told[0]] = kinds.get(told[0], 0) + 1
            most = {1: 9, 2: 7, 3: 5}[one[0]]
            found = apart_read(one, other, most)
            if found is not None:
                self.assertEqual(told, ("apart", *found), (one, other))
            elif told[0] == "apart":
                self.assertGreater(len(told[1]), most)
            else:
                self.assertEqual(told, ("alike", sorted(pairs_read(one, other))))
        self.assertGreater(min(kinds["alike"], kinds["apart"]), 15)

    def test_many_houses(self):
        lengths = {}
        for one, other in pairs_of_houses(22, 300, 5):
            if len(pairs_read(one, other)) > 150:
                self.too_many(one, other)
                lengths["many"] = True
                continue
            told = compared(one, other)
            self.assertEqual(told, compared_read(one, other), (one, other))
            lengths[len(told[1]) if told[0] == "apart" else "alike"] = True
        self.assertIn("many", lengths)
        self.assertIn("alike", lengths)
        self.assertGreater(len(lengths), 5)

    def test_each_stand_is_asked_in_its_own_house(self):
        # In the other house, with another bar and memory, other notes could follow it.
        self.alike(TWICE_LATE, THRICE_LATE)
        self.alike(THRICE_LATE, TWICE_LATE)
        self.apart(house_of(2, 1, 12, [(1, 0, False)], []), house_of(2, 3, 2, [(3, 1, True)], [("span", 1, 1)]), [0] * 5, 1)
        self.apart(house_of(3, 1, 7, [(1, 9, False)], []), house_of(3, 2, 11, [(4, 12, True)], [("range", -4, 3)]), [0] * 5, 1)
        self.apart(house_of(3, 1, 2, [(3, -2, True)], [("never", 1, 1, "any")]), house_of(3, 1, 3, [(1, 2, True)], []),
                   [0, 0, 0, 1, 1], 2)

    def test_houses_with_nothing_in_common(self):
        houses = [house for notes in (2, 3) for house in made_houses(25, 160, 3) if house[0] == notes]
        kinds = {}
        for one, other in zip(houses, houses[1:] + houses[:1]):
            if one[0] != other[0]:
                continue
            if len(pairs_read(one, other)) > 150:
                self.too_many(one, other)
                continue
            told = compared(one, other)
            self.assertEqual(told, compared_read(one, other), (one, other))
            kinds[told[0]] = True
        self.assertEqual(sorted(kinds), ["alike", "apart"])

    def test_each_pair_is_that_of_a_line(self):
        for one, other in ((CHANGING, house_of(2, 2, 5, [(3, 7, True)], [("again", 1)])), (FREE, ruled(FREE, [("leap", 1)]))):
            found = {}
            for many in range(9):
                for line in all_lists(one, many):
                    if breaks_read(one, line) == []:
                        found[(stand_read(one, line), stand_read(other, line))] = True
            self.assertEqual(compared(one, other), ("alike", sorted(found)))


class ShowsAlike(unittest.TestCase):
    one = CHANGING
    other = house_of(2, 2, 5, [(3, 7, True)], [("again", 1)])

    def setUp(self):
        self.pairs = compared(self.one, self.other)[1]

    def yes(self, pairs, one=None, other=None):
        self.assertIs(shows_alike(one or self.one, other or self.other, pairs), True, pairs)

    def no(self, pairs, one=None, other=None):
        self.assertIs(shows_alike(one or self.one, other or self.other, pairs), False, pairs)

    def test_as_they_are_told(self):
        self.yes(self.pairs)
        self.yes(self.pairs[::-1])
        self.yes(self.pairs[4:] + self.pairs[:4])

    def test_doubles(self):
        self.yes(self.pairs + self.pairs)
        self.yes(self.pairs + [START])
        for pair in self.pairs:
            self.yes([pair] + self.pairs)

    def test_each_left_out(self):
        for place in range(len(self.pairs)):
            self.no(self.pairs[:place] + self.pairs[place + 1:])
            # Another one twice in its place makes it no better.
            self.no(self.pairs[:place] + self.pairs[place + 1:] + self.pairs[place - 1:place])

    def test_each_left_out_where_each_stand_is_asked_in_its_own_house(self):
        for houses in ((TWICE_LATE, THRICE_LATE), (THRICE_LATE, TWICE_LATE)):
            pairs = compared(*houses)[1]
            self.yes(pairs, *houses)
            for place in range(len(pairs)):
                self.no(pairs[:place] + pairs[place + 1:], *houses)

    def test_without_the_pair_of_the_line_without_notes(self):
        self.assertEqual(self.pairs[0], START)
        self.no(self.pairs[1:])
        self.no([])
        self.no([], MUTE, MUTE)
        self.yes([START], MUTE, MUTE)
        self.no([((1, (0,)), (1, (0,)))], MUTE, MUTE)

    def test_pairs_more_that_do_not_come(self):
        # No line that is let by has the stand (1, (0,)) here and (1, (1,)) there; (3, (0, 0, 0)) is of none at all.
        self.yes([START, ((1, (0,)), (1, (1,)))], MUTE, MUTE)
        self.yes([START, ((3, (0, 0, 0)), (2, (1, 0)))], MUTE, MUTE)
        odd = ((3, (0, 0, 1)), (4, (1, 1, 1, 1)))
        self.assertNotIn(odd, self.pairs)
        self.yes(self.pairs + [odd] + self.behind_it(odd))

    def behind_it(self, pair):
        found, waiting = [], [pair]
        while waiting:
            here = waiting.pop()
            for note in nexts(self.one, here[0]):
                after = (behind(self.one, here[0], note), behind(self.other, here[1], note))
                if after not in found:
                    found.append(after)
                    waiting.append(after)
        return found

    def test_pairs_more_that_lead_out_of_it(self):
        odd = ((3, (0, 0, 1)), (4, (1, 1, 1, 1)))
        self.no(self.pairs + [odd])
        self.no([odd] + self.pairs)
        more = self.behind_it(odd)
        for place, pair in enumerate(more):
            if pair not in self.pairs:
                self.no(self.pairs + [odd] + more[:place] + more[place + 1:])

    def test_pairs_more_of_stands_with_other_notes_behind(self):
        self.no(self.pairs + [((1, (0,)), (1, (1,)))])
        self.no(self.pairs + [((3, (0, 1, 0)), (4, (0, 1, 0, 1)))])
        self.no([((3, (0, 1, 0)), (4, (0, 1, 0, 1)))] + self.pairs)

    def test_houses_that_are_not_alike(self):
        for one, other in ((FREE, CHANGING), (CHANGING, FREE), (STILL, CHANGING), (MUTE, FREE), (FREE, MUTE)):
            for house in (one, other):
                stands = come(house, (0, ()))
                self.no([(stand, stand) for stand in stands], one, other)
            self.no([START], one, other)
        # More may follow the second than the first, and all that may follow the first leads into the list.
        self.no(compared(CHANGING, CHANGING)[1], CHANGING, FREE)
        self.no(compared(CHANGING, CHANGING)[1], FREE, CHANGING)

    def test_the_houses_in_their_order(self):
        turned = [(second, first) for first, second in self.pairs]
        self.yes(turned, self.other, self.one)
        self.no(self.pairs, self.other, self.one)
        self.no(turned)

    def test_another_number_of_notes(self):
        one, other = house_of(1, 1, 12, PLAIN, []), house_of(2, 1, 12, PLAIN, [("range", 0, 0)])
        pairs = compared(one, one)[1]
        self.yes(pairs, one, one)
        self.no(pairs, one, other)
        self.no(pairs, other, one)

    def test_what_is_no_pair_of_stands(self):
        for thing in (None, (), ((0, ()),), ((0, ()), (0, ()), (0, ())), [(0, ()), (0, ())], ((0, ()), None), (0, ()),
                      ((1, (True,)), (1, (1,))), ((1, (1,)), (1, (False,))), ((4, (0, 1, 0)), (3, (0, 1, 0))),
                      ((3, (0, 1, 0)), (6, (0, 1, 0, 1))), ((1, (2,)), (1, (0,))), ((1, (0,)), (1, (2,)))):
            self.no(self.pairs + [thing])

    def test_where_too_many_pairs_come(self):
        pairs = sorted(pairs_read(*ALIKE_151))
        self.yes(pairs, *ALIKE_151)
        for place in (0, 1, 77, 150):
            self.no(pairs[:place] + pairs[place + 1:], *ALIKE_151)
        wide = house_of(7, 4, 12, [(4, 0, False)], [])
        self.no([START], wide, wide)

    def test_four_hundred_pairs(self):
        house = house_of(7, 4, 12, PLAIN, [("range", 60, 60)])
        ended = [(3, (one, other, last)) for one in range(7) for other in range(7) for last in range(7)]
        pairs = [START] + [(stand, ended[0]) for stand in ended] + [(ended[0], stand) for stand in ended[:56]]
        self.assertEqual(len(pairs), 400)
        self.yes(pairs, house, house)

    def test_what_is_told_of_many_houses(self):
        shown = 0
        for one, other in pairs_of_houses(23, 80, 3):
            if len(pairs_read(one, other)) > 150:
                continue
            told = compared(one, other)
            if told[0] == "alike":
                self.yes(told[1], one, other)
                for place in range(0, len(told[1]), 5):
                    self.no(told[1][:place] + told[1][place + 1:], one, other)
                shown += 1
            else:
                self.no(sorted(pairs_read(one, other)), one, other)
        self.assertGreater(shown, 10)


class Less(unittest.TestCase):
    def test_each_rule(self):
        for k in range(8):
            found = less(EVERY, k)
            self.assertEqual(found, EVERY[:4] + (EVERY[4][:k] + EVERY[4][k + 1:],))
            self.assertEqual(found, house_of(*found))
            self.assertIsInstance(found[4], tuple)

    def test_the_only_rule(self):
        self.assertEqual(less(CHANGING, 0), FREE)

    def test_rules_that_are_there_twice(self):
        house = ruled(FREE, [("leap", 1), ("again", 2), ("leap", 1)])
        self.assertEqual(less(house, 0)[4], (("again", 2), ("leap", 1)))
        self.assertEqual(less(house, 1)[4], (("leap", 1), ("leap", 1)))
        self.assertEqual(less(house, 2)[4], (("leap", 1), ("again", 2)))

    def test_a_number_that_no_rule_has(self):
        for house in (FREE, CHANGING, EVERY):
            many = len(house[4])
            for k in (-1, -2, -8, many, many + 1, 9, GREAT, -GREAT):
                if not 0 <= k < many:
                    with self.assertRaises(NoNumber) as caught:
                        less(house, k)
                    self.assertIs(type(caught.exception), NoNumber)


class Needed(unittest.TestCase):
    def holds(self, house, k):
        """What is told of the rule; the word is given back."""
        told = needed(house, k)
        self.assertIsInstance(told, tuple)
        self.assertEqual(len(told), 2)
        rest = less(house, k)
        right = compared_read(rest, house)
        self.assertEqual(told, ("needed", right[1]) if right[0] == "apart" else ("follows", right[1]))
        if told[0] == "needed":
            self.assertEqual(breaks_read(rest, told[1]), [])
            found = breaks_read(house, told[1])
            self.assertNotEqual(found, [])
            # It breaks this rule alone, and at its last note at the earliest.
            self.assertEqual({(beat, number) for beat, number, voices in found}, {(len(told[1]) - 1, k)})
        else:
            self.assertIs(shows_alike(rest, house, told[1]), True)
        return told[0]

    def test_needed(self):
        self.assertEqual(needed(CHANGING, 0), ("needed", [0, 0]))
        self.assertEqual(needed(STILL, 0), ("needed", [0, 1]))
        self.assertEqual(needed(MUTE, 0), ("needed", [0]))
        house = ruled(FREE, [("leap", 0), ("again", 2)])
        self.assertEqual(needed(house, 0), ("needed", [0, 1]))
        self.assertEqual(needed(house, 1), ("needed", [0, 0, 0]))

    def test_follows(self):
        house = ruled(FREE, [("again", 1), ("again", 2), ("leap", 1)])
        pairs = compared(CHANGING, CHANGING)[1]
        self.assertEqual(needed(house, 1), ("follows", pairs))
        self.assertEqual(needed(house, 2), ("follows", pairs))
        self.assertEqual(needed(house, 0), ("needed", [0, 0]))

    def test_each_rule_of_a_house(self):
        right = [[1, 0], [0, 3], [1, 3, 3], [1, 1, 1], [0, 0, 1], [2, 3, 1], [1, 1, 0], [1, 3, 2]]
        self.assertEqual([needed(EVERY, k) for k in range(8)], [("needed", line) for line in right])
        self.assertEqual([self.holds(EVERY, k) for k in range(8)], ["needed"] * 8)
        for house in (CHANGING, STILL, MUTE, ruled(FREE, [("leap", 1), ("back", 1, 1), ("again", 3)])):
            for k in range(len(house[4])):
                self.holds(house, k)

    def test_rules_that_are_there_twice(self):
        for rule in EVERY[4][1:]:
            house = ruled(EVERY, EVERY[4][1:] + (rule,))
            for k, other in enumerate(house[4]):
                word = self.holds(house, k)
                if other == rule:
                    self.assertEqual(word, "follows")
        self.assertEqual(needed(ruled(FREE, [("again", 1), ("again", 1)]), 0), ("follows", compared(CHANGING, CHANGING)[1]))

    def test_a_number_that_no_rule_has(self):
        wide = house_of(7, 4, 12, [(4, 0, False)], [("leap", 5)])
        for house in (FREE, CHANGING, EVERY, wide):
            for k in (-1, -2, len(house[4]), len(house[4]) + 1, GREAT, -GREAT):
                with self.assertRaises(NoNumber) as caught:
                    needed(house, k)
                self.assertIs(type(caught.exception), NoNumber)

    def test_too_many(self):
        wide = house_of(7, 4, 12, [(4, 0, False)], [("leap", 5)])
        with self.assertRaises(TooMany) as caught:
            needed(wide, 0)
        self.assertIs(type(caught.exception), TooMany)
        with self.assertRaises(TooMany):
            needed(APART_151[1], 0)
        with self.assertRaises(NoNumber):
            needed(wide, 1)

    def test_the_house_less_the_rule_may_have_too_many(self):
        # Pairs are of lines that both let by: less the rule more than 150 stands come.
        house = house_of(7, 4, 12, [(4, 0, False)], [("range", 60, 60)])
        self.assertEqual(needed(house, 0), ("needed", [0]))
        self.assertEqual(needed(house_of(7, 1, 12, PLAIN, [("again", 2), ("leap", 0)]), 1), ("needed", [0, 1]))

    def test_just_150(self):
        house = ALIKE_150[0]
        self.assertEqual([len(needed(house, k)[1]) for k in (0, 3)], [150, 150])
        self.assertEqual([needed(house, k)[0] for k in (0, 3)], ["follows", "follows"])

    def test_many_houses(self):
        words = []
        for house in made_houses(24, 120, 4):
            for k in range(len(house[4])):
                if len(pairs_read(less(house, k), house)) <= 150:
                    words.append(self.holds(house, k))
                else:
                    with self.assertRaises(TooMany):
                        needed(house, k)
        self.assertGreater(min(words.count("needed"), words.count("follows")), 20)


class Kept(unittest.TestCase):
    def test_what_is_told_is_the_askers_own(self):
        for ask in (lambda: compared(CHANGING, CHANGING), lambda: compared(FREE, CHANGING), lambda: needed(CHANGING, 0),
                    lambda: needed(ruled(FREE, [("leap", 1)]), 0)):
            told = ask()
            right = copy.deepcopy(told)
            told[1].append("more")
            told[1].reverse()
            self.assertEqual(ask(), right)

    def test_what_is_handed_in_stays(self):
        pairs = compared(CHANGING, CHANGING)[1][::-1] * 2
        before = copy.deepcopy(pairs)
        shows_alike(CHANGING, CHANGING, pairs)
        shows_alike(CHANGING, FREE, pairs)
        self.assertEqual(pairs, before)

    def test_a_list_of_pairs_changed_behind_the_call(self):
        pairs = compared(CHANGING, CHANGING)[1]
        self.assertIs(shows_alike(CHANGING, CHANGING, pairs), True)
        gone = pairs.pop()
        self.assertIs(shows_alike(CHANGING, CHANGING, pairs), False)
        pairs.append(gone)
        self.assertIs(shows_alike(CHANGING, CHANGING, pairs), True)


if __name__ == "__main__":
    unittest.main()
