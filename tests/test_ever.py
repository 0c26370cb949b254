"""Whether a begun line goes on for ever or how far at most, and what shows it."""

import copy
import unittest

from canonwright.errors import Broken, TooMany
from canonwright.ever import onward, shows_end, shows_round
from canonwright.houses import house_of
from canonwright.judging import breaks, first_break
from canonwright.stands import behind, come, nexts, stand_of
from tests.reading import all_lists, breaks_read, come_read, made_houses, most_read, stand_read

GREAT = int("9" * 60)
START = (0, ())

# Each note higher than the one before it.
RISING = house_of(4, 2, 12, [(1, 0, False)], [("above", 0, 1), ("again", 1)])
# No note but the first, and it is sung three times at most.
THRICE = house_of(1, 1, 1, [(0, 0, False)], [("again", 3)])
# No line but the one without notes.
NOTHING = house_of(7, 1, 1, [(0, 0, False)], [("range", 60, 60)])
# Any note at any time.
FREE = house_of(2, 3, 12, [(1, 0, False)], [])
# All lines end, but it takes as many as 29 notes.
LONG = house_of(6, 3, 2, [(2, 1, False)], [("never", 0, 0, "against"), ("leap", 2), ("never", 0, 0, "like"),
                                           ("span", 2, 1), ("back", 1, 3)])
# From the start come just 150 stands, just 150 stands none of which goes on for ever, 151 stands, 156 stands.
WITH_150 = house_of(5, 2, 9, [(1, -3, False), (2, 9, False)], [("back", 3, 1), ("again", 1)])
ENDING_150 = house_of(7, 1, 6, [(4, -11, False), (2, 6, False), (2, 0, True)],
                      [("span", 0, 61), ("again", 2), ("never", 2, 3, "any"), ("range", -2, 10), ("leap", 2)])
WITH_151 = house_of(3, 3, 11, [(1, 2, False), (3, -3, False)], [("leap", 1)])
WITH_156 = house_of(5, 1, 12, [(0, 0, False)], [])
# Each note as high as the one before it, or one step higher.
CLIMBING = house_of(5, 1, 12, [(1, 0, False)], [("above", 0, 1), ("leap", 1)])


class Told(unittest.TestCase):
    def is_round(self, house, line, told):
        self.assertIs(type(told), tuple)
        self.assertEqual((len(told), told[0]), (3, "round"))
        word, more, loop = told
        self.assertEqual((type(more), type(loop)), (list, list))
        self.assertLessEqual(len(more), 150)
        self.assertTrue(1 <= len(loop) <= 150)
        self.assertEqual(breaks(house, line + more + loop), [], (house, line, told))
        self.assertEqual(stand_of(house, line + more), stand_of(house, line + more + loop), (house, line, told))
        self.assertEqual(breaks_read(house, line + more + loop * 3), [], (house, line, told))
        self.assertIs(shows_round(house, line, more, loop), True)

    def is_end(self, house, line, told, right):
        self.assertIs(type(told), tuple)
        self.assertEqual((len(told), told[0]), (4, "ends"))
        word, most, more, paper = told
        self.assertEqual((type(most), type(more), type(paper)), (int, list, list))
        self.assertEqual(most, right, (house, line))
        self.assertEqual(len(more), most)
        self.assertEqual(breaks(house, line + more), [], (house, line, told))
        self.assertEqual(nexts(house, stand_of(house, line + more)), [])
        self.assertEqual(paper, sorted(paper))
        self.assertEqual([stand for stand, number in paper], come(house, stand_of(house, line)))
        self.assertEqual(dict(paper)[stand_of(house, line)], most)
        self.assertEqual([type(entry) for entry in paper], [tuple] * len(paper))
        self.assertIs(shows_end(house, stand_of(house, line), paper), True)

    def holds(self, house, line):
        right = most_read(house, line)
        if right is None:
            self.is_round(house, line, onward(house, line))
        else:
            self.is_end(house, line, onward(house, line), right)
        return right


class Onward(Told):
    def test_for_ever_at_once(self):
        for line in ([], [0], [1, 0], [0, 1, 1, 0, 1]):
            self.is_round(FREE, line, onward(FREE, line))

    def test_for_ever_later(self):
        for line in ([], [0], [0, 1], [4], [0, 0, 1, 2]):
            self.is_round(CLIMBING, line, onward(CLIMBING, line))

    def test_for_ever_past_notes_that_lead_to_an_end(self):
        # The follower sings a 0 too low, so nothing goes on behind it, at once or two notes later.
        for late in (1, 3):
            house = house_of(3, 1, 12, [(late, -1, False)], [("range", 0, 2)])
            self.is_end(house, [0], onward(house, [0]), late - 1)
            self.is_end(house, [1, 2, 1, 0], onward(house, [1, 2, 1, 0]), late - 1)
            for line in ([], [1], [2, 1, 2, 2]):
                told = onward(house, line)
                self.is_round(house, line, told)
                self.assertNotIn(0, told[1] + told[2])

    def test_that_ends_at_once(self):
        self.assertEqual(onward(NOTHING, []), ("ends", 0, [], [(START, 0)]))
        self.assertEqual(onward(RISING, [3]), ("ends", 0, [], [((1, (3,)), 0)]))
        self.assertEqual(onward(RISING, [0, 1, 2, 3]), ("ends", 0, [], [((4, (1, 2, 3)), 0)]))
        self.assertEqual(onward(THRICE, [0, 0, 0]), ("ends", 0, [], [((3, (0, 0, 0)), 0)]))

    def test_that_ends_later(self):
        paper = [(START, 3), ((1, (0,)), 2), ((2, (0, 0)), 1), ((3, (0, 0, 0)), 0)]
        self.assertEqual(onward(THRICE, []), ("ends", 3, [0, 0, 0], paper))
        self.assertEqual(onward(THRICE, [0]), ("ends", 2, [0, 0], paper[1:]))
        told = onward(RISING, [1])
        right = [((1, (1,)), 2), ((2, (1, 2)), 1), ((2, (1, 3)), 0), ((3, (1, 2, 3)), 0)]
        self.assertEqual(told, ("ends", 2, [2, 3], right))
        self.is_end(RISING, [], onward(RISING, []), 4)

    def test_the_most_is_not_that_of_the_first_note(self):
        # Each note lower than the one before it: the highest leads furthest.
        falling = house_of(4, 2, 12, [(1, 0, False)], [("above", 1, 0), ("again", 1)])
        self.is_end(falling, [], onward(falling, []), 4)
        self.assertEqual(onward(falling, [])[2], [3, 2, 1, 0])

    def test_that_ends_much_later(self):
        told = onward(LONG, [])
        self.is_end(LONG, [], told, 29)
        for many in range(30):
            self.assertEqual(onward(LONG, told[2][:many])[1], 29 - many)

    def test_each_number_of_the_paper(self):
        for house in (RISING, THRICE, LONG):
            found = come_read(house, [])
            for stand, number in onward(house, [])[3]:
                self.assertEqual(number, most_read(house, found[stand][0]), (house, stand))

    def test_a_line_that_is_broken(self):
        for house, line in ((RISING, [2, 1]), (RISING, [0, 1, 1, 0]), (THRICE, [0] * 5), (NOTHING, [3, 3]),
                            (WITH_150, [0, 0, 4, 4])):
            with self.assertRaises(Broken) as caught:
                onward(house, line)
            self.assertIs(type(caught.exception), Broken)
            self.assertEqual(caught.exception.first, breaks_read(house, line)[0])

    def test_broken_goes_ahead_of_too_many(self):
        house = house_of(7, 4, 12, [(4, 0, False)], [("leap", 5)])
        with self.assertRaises(TooMany):
            come(house, (2, (0, 6)))
        with self.assertRaises(Broken) as caught:
            onward(house, [0, 6])
        self.assertEqual(caught.exception.first, (1, 0, ()))

    def test_too_many(self):
        for house, line in ((WITH_151, []), (WITH_156, []), (house_of(7, 4, 1, [(4, 0, True)], []), [0] * 399)):
            with self.assertRaises(TooMany) as caught:
                onward(house, line)
            self.assertIs(type(caught.exception), TooMany)

    def test_too_many_also_where_a_round_is_near(self):
        with self.assertRaises(TooMany):
            onward(WITH_151, [])
        self.assertIs(shows_round(WITH_151, [], [0] * 4, [0] * 3), True)

    def test_it_is_the_stand_of_the_line_that_counts(self):
        self.is_round(WITH_156, [2], onward(WITH_156, [2]))
        self.is_round(WITH_151, [0], onward(WITH_151, [0]))

    def test_just_150(self):
        self.is_round(WITH_150, [], onward(WITH_150, []))
        told = onward(ENDING_150, [])
        self.is_end(ENDING_150, [], told, most_read(ENDING_150, []))
        self.assertEqual(len(told[3]), 150)

    def test_a_long_line(self):
        self.is_round(FREE, [0, 1] * 100, onward(FREE, [0, 1] * 100))
        line = [0] * 150 + [1] * 150
        self.is_round(CLIMBING, line, onward(CLIMBING, line))

    def test_many_houses(self):
        ends = {}
        for house in made_houses(12, 150, 3):
            if len(come_read(house, [])) <= 150:
                ends[self.holds(house, [])] = True
        self.assertIn(None, ends)
        self.assertGreater(len(ends), 5)

    def test_begun_lines_of_many_houses(self):
        for house in made_houses(13, 40, 3):
            for many in (1, 2, 3, 5):
                for line in all_lists(house, many)[::7]:
                    if breaks_read(house, line) != []:
                        with self.assertRaises(Broken) as caught:
                            onward(house, line)
                        self.assertEqual(caught.exception.first, first_break(house, line))
                    elif len(come_read(house, line)) <= 150:
                        self.holds(house, line)


class ShowsEnd(unittest.TestCase):
    house = RISING
    stand = (1, (1,))
    paper = [((1, (1,)), 2), ((2, (1, 2)), 1), ((2, (1, 3)), 0), ((3, (1, 2, 3)), 0)]

    def yes(self, paper, stand=stand, house=house):
        self.assertIs(shows_end(house, stand, paper), True, paper)

    def no(self, paper, stand=stand, house=house):
        self.assertIs(shows_end(house, stand, paper), False, paper)

    def with_number(self, place, number):
        return self.paper[:place] + [(self.paper[place][0], number)] + self.paper[place + 1:]

    def test_as_it_is(self):
        self.yes(self.paper)

    def test_in_another_order(self):
        self.yes(self.paper[::-1])
        self.yes(self.paper[2:] + self.paper[:2])

    def test_for_each_stand_in_it(self):
        for stand, number in self.paper:
            self.yes(self.paper, stand)

    def test_with_greater_numbers_than_must_be(self):
        self.yes([(stand, 2 * number) for stand, number in self.paper])
        self.yes([(stand, number + 1) for stand, number in self.paper])
        self.yes(self.with_number(0, GREAT))
        self.yes([(stand, number + GREAT - 9) for stand, number in self.paper])

    def test_with_stands_that_do_not_come(self):
        self.yes(self.paper + [((1, (3,)), 0), ((4, (0, 1, 3)), 7)])
        # A stand to which no line comes, with all that comes from it.
        self.yes(self.paper + [((2, (3, 2)), 1), ((3, (3, 2, 3)), 0)])

    def test_a_stand_twice(self):
        self.no(self.paper + [self.paper[0]])
        self.no(self.paper + [self.paper[3]])
        self.no(self.paper + [(self.stand, 3)])
        self.no([(self.stand, 3)] + self.paper)
        self.no([((3, (1, 2, 3)), 5)] + self.paper)

    def test_the_stand_not_in_it(self):
        for stand in (START, (1, (0,)), (1, (2,)), (2, (0, 1)), (4, (1, 2, 3))):
            self.no(self.paper, stand)
        self.no(self.paper[1:])
        self.no([])
        self.yes(self.paper[1:], (2, (1, 2)))

    def test_a_number_below_nought(self):
        self.no(self.with_number(2, -1))
        self.no(self.with_number(3, -1))
        self.no(self.with_number(3, -GREAT))
        self.no([((1, (3,)), -1)], (1, (3,)))
        self.yes([((1, (3,)), 0)], (1, (3,)))
        self.no([(stand, number - 1) for stand, number in self.paper])
        # Also where the asked stand has nothing to do with it.
        self.no(self.paper + [((1, (3,)), -1)])

    def test_a_note_that_leads_to_no_stand_in_it(self):
        for place in (1, 2, 3):
            self.no(self.paper[:place] + self.paper[place + 1:])
        self.no(self.paper + [((1, (0,)), 9)])
        self.no(self.paper + [((1, (2,)), 9)])

    def test_a_note_that_leads_to_a_number_not_less(self):
        self.no(self.with_number(0, 1))
        self.no(self.with_number(0, 0))
        self.no(self.with_number(1, 0))
        self.no(self.with_number(1, 2))
        self.no(self.with_number(2, 2))
        self.no(self.with_number(2, 3))
        self.no(self.with_number(3, 1))
        self.no(self.paper + [((2, (3, 2)), 0), ((3, (3, 2, 3)), 0)])
        self.yes(self.with_number(2, 1))

    def test_a_line_that_goes_on_for_ever_has_no_paper(self):
        stands = come(FREE, START)
        for number in (0, 1, 150, GREAT):
            self.no([(stand, number) for stand in stands], START, FREE)
        self.no([(stand, len(stands) - place) for place, stand in enumerate(stands)], START, FREE)
        self.no([(stand, place) for place, stand in enumerate(stands)], START, FREE)

    def test_no_tuples_of_a_stand_and_a_whole_number(self):
        for thing in (((3, (1, 2, 3)), True), ((3, (1, 2, 3)), False), ((3, (1, 2, 3)), None), ((3, (1, 2)), 0),
                      ((3, (1, 2, 4)), 0), ((3, [1, 2, 3]), 0), ((3, (1, 2, 3)),), ((3, (1, 2, 3)), 0, 0), None):
            self.no(self.paper[:3] + [thing])
        self.no(self.paper + [((5, (1, 2, 3)), 0)])
        self.no(self.paper + [(START, True)])

    def test_where_too_many_stands_come(self):
        house = house_of(7, 4, 12, [(4, 0, False)], [("range", 0, 6), ("range", 0, 6)])
        self.no([((0, ()), 1)], START, house)
        far = house_of(7, 4, 12, [(4, 0, False)], [("leap", 0), ("again", 1)])
        self.yes([((1, (note,)), 0) for note in range(7)] + [(START, 1)], START, far)

    def test_a_paper_of_four_hundred(self):
        house = house_of(7, 4, 12, [(0, 0, False)], [("range", 60, 60)])
        ended = [(3, (one, other, last)) for one in range(7) for other in range(7) for last in range(7)]
        ended += [(4, (one, other, 0)) for one in range(7) for other in range(7)]
        self.yes([(stand, 0) for stand in ended], (3, (0, 0, 0)), house)
        self.no([(stand, 0) for stand in ended] + [(ended[7], 1)], (3, (0, 0, 0)), house)
        self.no([(stand, 0) for stand in ended], START, house)

    def test_each_paper_that_is_told_hurt_at_each_entry(self):
        for house in (RISING, THRICE, LONG):
            paper = onward(house, [])[3]
            for place, (stand, number) in enumerate(paper):
                hurt = list(paper)
                hurt[place] = (stand, number - 1)
                self.no(hurt, START, house)
                if stand != START:
                    self.no(paper[:place] + paper[place + 1:], START, house)


class ShowsRound(unittest.TestCase):
    def yes(self, house, line, more, loop):
        self.assertIs(shows_round(house, line, more, loop), True, (line, more, loop))

    def no(self, house, line, more, loop):
        self.assertIs(shows_round(house, line, more, loop), False, (line, more, loop))

    def test_a_round(self):
        self.yes(FREE, [], [0, 0, 0], [0, 0, 0])
        self.yes(FREE, [0, 0, 0], [], [0, 0, 0])
        self.yes(FREE, [0, 1], [0, 1, 0], [1, 0] * 3)
        self.yes(CLIMBING, [2], [3, 4, 4, 4], [4])

    def test_an_empty_loop(self):
        self.no(FREE, [0, 0, 0], [], [])
        self.no(FREE, [], [], [])
        self.no(FREE, [], [0, 0, 0], [])
        self.no(CLIMBING, [4, 4, 4], [4], [])

    def test_another_turn_behind(self):
        # The tails are alike, the beats of the bar aren't.
        for many in (1, 2, 4, 5):
            self.no(FREE, [], [0, 0, 0], [0] * many)
        self.no(FREE, [], [0, 0], [0])
        self.no(FREE, [], [0, 0], [0, 0, 0])
        self.no(FREE, [], [], [0, 0, 0])

    def test_another_tail_behind(self):
        self.no(FREE, [], [0, 0, 0], [0, 0, 1])
        self.no(FREE, [], [0, 0, 0], [1, 0, 0])
        self.no(FREE, [1, 0, 0], [], [0, 0, 0])
        self.yes(FREE, [1, 0, 0], [], [1, 0, 0])
        self.no(CLIMBING, [], [3, 4, 4], [4])

    def test_a_rule_broken_in_the_loop(self):
        house = house_of(4, 1, 12, [(0, 0, False)], [("leap", 2)])
        self.no(house, [], [0, 1, 2], [3, 0, 1, 2])
        self.yes(house, [], [0, 1, 2], [1, 0, 1, 2])
        # The last note of the loop, too.
        self.no(house, [], [1, 1, 3, 0], [1, 3, 0])

    def test_a_rule_broken_in_what_is_ahead_of_the_loop(self):
        house = house_of(4, 1, 12, [(0, 0, False)], [("leap", 2)])
        self.yes(house, [1], [0, 0, 0], [0])
        self.no(house, [3], [0, 0, 0], [0])
        self.no(house, [1], [0, 3, 3, 3], [3])

    def test_a_line_that_is_broken(self):
        house = house_of(4, 1, 12, [(0, 0, False)], [("leap", 2)])
        self.no(house, [0, 3, 2], [2, 2, 2], [2])
        self.no(house, [0, 3, 2, 2, 2], [], [2])

    def test_lists_of_any_length(self):
        self.yes(FREE, [], [1] * 100, [1] * 300)
        self.yes(FREE, [1] * 99, [0] * 150, [0] * 153)
        self.no(FREE, [], [1] * 100, [1] * 299)
        self.yes(FREE, [], [0, 1] * 200, [0, 1] * 150)

    def test_where_too_many_stands_come(self):
        house = house_of(7, 4, 12, [(4, 0, False)], [])
        self.yes(house, [], [1, 2, 3, 4, 5, 6], [0, 0, 0, 2, 3, 4, 5, 6])
        self.no(house, [], [1, 2, 3, 4, 5, 6], [2, 3, 4, 5, 6])
        self.yes(WITH_151, [], [1] * 4, [1] * 3)

    def test_each_round_of_small_lists(self):
        for house in made_houses(14, 25, 2):
            for more in all_lists(house, 4)[::3] + [[0] * 5]:
                for many in range(5):
                    for loop in all_lists(house, many):
                        right = (loop != [] and breaks_read(house, [0] + more + loop) == []
                                 and stand_read(house, [0] + more) == stand_read(house, [0] + more + loop))
                        self.assertIs(shows_round(house, [0], more, loop), right, (house, more, loop))


class Kept(unittest.TestCase):
    def test_what_is_told_is_the_askers_own(self):
        for house, line in ((FREE, [0]), (RISING, []), (THRICE, []), (NOTHING, []), (CLIMBING, [])):
            told = onward(house, line)
            right = copy.deepcopy(told)
            for part in told:
                if isinstance(part, list):
                    part.append("more")
                    part.reverse()
            self.assertEqual(onward(house, line), right)

    def test_no_list_within_stands_twice(self):
        told = onward(NOTHING, [])
        self.assertIsNot(told[2], told[3])
        told = onward(FREE, [])
        self.assertIsNot(told[1], told[2])

    def test_the_line_is_not_the_list_that_is_told(self):
        line = []
        told = onward(FREE, line)
        told[1].append(1)
        self.assertEqual(line, [])

    def test_what_is_handed_in_stays(self):
        house, line, more, loop = CLIMBING, [2], [3, 4, 4, 4], [4]
        paper = [((1, (1,)), 2), ((2, (1, 3)), 0), ((3, (1, 2, 3)), 0), ((2, (1, 2)), 1)]
        before = copy.deepcopy((house, line, more, loop, paper))
        onward(house, line)
        shows_round(house, line, more, loop)
        shows_end(RISING, (1, (1,)), paper)
        self.assertEqual((house, line, more, loop, paper), before)

    def test_what_is_handed_in_stays_where_it_is_refused(self):
        line = [3, 1]
        with self.assertRaises(Broken):
            onward(RISING, line)
        self.assertEqual(line, [3, 1])

    def test_each_note_that_may_follow_leads_to_a_lesser_number(self):
        paper = dict(onward(LONG, [])[3])
        for stand in paper:
            for note in nexts(LONG, stand):
                self.assertLess(paper[behind(LONG, stand, note)], paper[stand])


if __name__ == "__main__":
    unittest.main()
