"""The memory of a house, the stands of lines, the notes that may follow a stand, and the stands that come from it."""

import copy
import itertools
import unittest

from canonwright.errors import CanonError, TooMany
from canonwright.houses import house_of
from canonwright.judging import breaks
from canonwright.stands import behind, come, is_stand, memory, nexts, stand_of
from tests.reading import all_lists, all_stands, come_read, lines_to, made_houses, may_follow, memory_read, stand_read

GREAT = int("9" * 60)
START = (0, ())

# Leaps of at most one among three notes, memory 4: of lines let by there are 1, 3, 7, 17 and then 41 tails,
# these at each of the bar's three beats. 1 + 3 + 7 + 17 + 3 * 41 is 151.
WITH_151 = house_of(3, 3, 11, [(1, 2, False), (3, -3, False)], [("leap", 1)])
WITH_150 = house_of(5, 2, 9, [(1, -3, False), (2, 9, False)], [("back", 3, 1), ("again", 1)])
# All tails of five notes, memory 3: 1 + 5 + 25 + 125.
WITH_156 = house_of(5, 1, 12, [(0, 0, False)], [])
# Each note higher than the one before it.
RISING = house_of(5, 2, 12, [(1, 0, False)], [("above", 0, 1), ("again", 1)])


def plain(notes, bar, *lates):
    return house_of(notes, bar, 12, [(late, 0, False) for late in lates], [])


class Memory(unittest.TestCase):
    def test_each_greatest_late(self):
        for late, right in ((0, 3), (1, 3), (2, 3), (3, 4), (4, 5)):
            self.assertEqual(memory(plain(7, 1, late)), right)

    def test_the_greatest_of_several(self):
        for lates in itertools.product(range(5), repeat=3):
            self.assertEqual(memory(plain(2, 4, *lates)), {0: 3, 1: 3, 2: 3, 3: 4, 4: 5}[max(lates)], lates)

    def test_nothing_else_matters(self):
        house = house_of(7, 4, 1, [(3, -12, True), (0, 12, False)], [("leap", 12), ("again", 3)])
        self.assertEqual(memory(house), 4)


class StandOf(unittest.TestCase):
    def test_of_no_notes(self):
        for late in range(5):
            for bar in (1, 2, 3, 4):
                self.assertEqual(stand_of(plain(7, bar, late), []), START)

    def test_around_a_memory_of_three(self):
        house = plain(7, 2, 1)
        for line, right in (([4], (1, (4,))), ([4, 5], (2, (4, 5))), ([4, 5, 6], (3, (4, 5, 6))),
                            ([4, 5, 6, 0], (4, (5, 6, 0))), ([4, 5, 6, 0, 1], (3, (6, 0, 1))),
                            ([4, 5, 6, 0, 1, 2], (4, (0, 1, 2))), ([4, 5, 6, 0, 1, 2, 3], (3, (1, 2, 3)))):
            self.assertEqual(stand_of(house, line), right, line)

    def test_around_a_memory_of_five(self):
        house = plain(7, 3, 4)
        line = [k % 7 for k in range(13)]
        turns = [stand_of(house, line[:many])[0] for many in range(14)]
        self.assertEqual(turns, [0, 1, 2, 3, 4, 5, 6, 7, 5, 6, 7, 5, 6, 7])
        for many in range(14):
            self.assertEqual(stand_of(house, line[:many])[1], tuple(line[max(0, many - 5):many]))

    def test_a_bar_of_one_beat(self):
        self.assertEqual([stand_of(plain(1, 1, 3), [0] * many)[0] for many in range(8)], [0, 1, 2, 3, 4, 4, 4, 4])

    def test_a_bar_more_comes_to_the_same_turn(self):
        for bar in (1, 2, 3, 4):
            for late in range(5):
                house = plain(7, bar, late)
                most = memory(house)
                for many in range(most, most + bar):
                    self.assertEqual(stand_of(house, [1] * many)[0], many)
                    self.assertEqual(stand_of(house, [1] * (many + bar)), (many, (1,) * most))
                    self.assertEqual(stand_of(house, [1] * (many + 9 * bar)), (many, (1,) * most))

    def test_up_to_four_hundred_notes(self):
        for house in (plain(7, 1, 0), plain(7, 2, 3), plain(7, 3, 4), plain(7, 4, 2)):
            line = [(k * k + k // 5) % 7 for k in range(400)]
            for many in list(range(30)) + [97, 98, 99, 100, 101, 102, 396, 397, 398, 399, 400]:
                self.assertEqual(stand_of(house, line[:many]), stand_read(house, line[:many]), (house, many))

    def test_tuples_of_whole_numbers(self):
        for many in (0, 1, 9):
            told = stand_of(plain(7, 2, 4), [1] * many)
            self.assertEqual((type(told), type(told[0]), type(told[1])), (tuple, int, tuple))
            hash(told)

    def test_of_a_line_that_is_broken(self):
        self.assertEqual(stand_of(RISING, [3, 3, 1, 0]), (4, (3, 1, 0)))


class IsStand(unittest.TestCase):
    def yes(self, house, thing):
        self.assertIs(is_stand(house, thing), True, (house, thing))

    def no(self, house, thing):
        self.assertIs(is_stand(house, thing), False, (house, thing))

    def test_all_stands(self):
        for house in (plain(2, 1, 0), plain(2, 4, 4), plain(1, 3, 3), plain(3, 2, 2)):
            for stand in all_stands(house):
                self.yes(house, stand)

    def test_those_of_lines_let_by_or_not(self):
        for line in ([], [4], [1, 1], [4, 3, 2], [0, 1, 2, 3], [4, 4, 4, 4, 4], [0] * 400):
            self.yes(RISING, stand_of(RISING, line))

    def test_the_turn_at_its_edges(self):
        for bar in (1, 2, 3, 4):
            for late in range(5):
                house = plain(2, bar, late)
                most = memory(house)
                for turn in range(most + bar):
                    self.yes(house, (turn, (1,) * min(turn, most)))
                for turn in (-1, most + bar, most + bar + 1, GREAT):
                    for many in range(most + bar + 2):
                        self.no(house, (turn, (1,) * many))
                self.no(house, (-GREAT, ()))

    def test_the_tail_has_as_many_notes_as_the_turn_says(self):
        house = plain(2, 3, 3)
        for turn in range(7):
            for many in range(9):
                self.assertIs(is_stand(house, (turn, (0,) * many)), many == min(turn, 4), (turn, many))

    def test_the_notes_at_their_edges(self):
        for notes in range(1, 8):
            house = plain(notes, 1, 0)
            for note in (-1, 0, notes - 1, notes, GREAT, -GREAT):
                right = 0 <= note < notes
                for tail in ((note, 0, 0), (0, note, 0), (0, 0, note)):
                    self.assertIs(is_stand(house, (3, tail)), right, (notes, tail))

    def test_no_whole_numbers(self):
        house = plain(2, 2, 0)
        for thing in (True, False, None, "", "1", 1.0, 0.0, [], [1], (), (1,), {}, object(), int):
            self.no(house, (thing, (1,)))
            self.no(house, (thing, ()))
            self.no(house, (1, (thing,)))
            self.no(house, (2, (0, thing)))
            self.no(house, (3, (thing, 0, 0)))
            self.no(house, (4, (0, 0, thing)))

    def test_no_tuple_for_a_tail(self):
        house = plain(2, 2, 0)
        for thing in ([], {}, "", None, 0, False, set(), b""):
            self.no(house, (0, thing))
        for thing in ([0], {0: 0}, "0", None, 0, True, {0}, b"0"):
            self.no(house, (1, thing))
        self.no(house, (3, [0, 0, 0]))
        self.no(house, (3, "000"))
        self.no(house, (3, ((0, 0, 0),)))
        self.no(house, (3, ([0], 0, 0)))

    def test_too_few_and_too_many_parts(self):
        house = plain(2, 2, 0)
        for thing in ((), (0,), ((),), (0, (), ()), (0, (), 0), (1, (0,), None), (1, 0), (3, 0, 0, 0), ((0, ()),),
                      ((), 0), ((0,), 1), (None, None), ("0", "()"), (0, 0), ((), ())):
            self.no(house, thing)

    def test_no_tuple_at_all(self):
        house = plain(2, 2, 0)
        for thing in ([0, ()], [1, (0,)], None, 0, True, "", "ab", {0: ()}):
            self.no(house, thing)


class NextsAndBehind(unittest.TestCase):
    def holds(self, house, line, stand):
        told = nexts(house, stand)
        self.assertIs(type(told), list)
        self.assertEqual(told, may_follow(house, line), (house, line))
        for note in range(house[0]):
            last = [item for item in breaks(house, line + [note]) if item[0] == len(line)]
            self.assertEqual(note in told, last == [], (house, line, note))
            self.assertEqual(behind(house, stand, note), stand_read(house, line + [note]), (house, line, note))
            self.assertEqual(behind(house, stand, note), stand_of(house, line + [note]), (house, line, note))

    def test_of_all_small_lines_of_many_houses(self):
        for house in made_houses(5, 60, 3):
            for many in range(5):
                for line in all_lists(house, many):
                    self.holds(house, line, stand_of(house, line))

    def test_of_longer_lines_of_many_houses(self):
        for number, house in enumerate(made_houses(6, 80, 7)):
            line = [(k * k * (number + 1) + k // 3) % house[0] for k in range(16)]
            for many in range(17):
                self.holds(house, line[:many], stand_of(house, line[:many]))

    def test_of_four_hundred_notes(self):
        for number, house in enumerate(made_houses(7, 8, 7)):
            for many in (396, 397, 398, 399):
                line = [(k * k * (number + 1) + k // 3) % house[0] for k in range(many)]
                self.holds(house, line, stand_of(house, line))

    def test_of_every_stand_whether_a_line_that_is_let_by_comes_to_it_or_not(self):
        for house in made_houses(8, 30, 2) + [RISING]:
            for stand in all_stands(house):
                for line in lines_to(house, stand):
                    self.assertEqual(stand_read(house, line), stand)
                    self.holds(house, line, stand)

    def test_from_a_stand_to_which_no_line_comes(self):
        falls = (3, (4, 2, 1))
        self.assertNotIn(falls, come(RISING, START))
        self.assertEqual(nexts(RISING, falls), [2, 3, 4])
        self.assertEqual(behind(RISING, falls, 3), (4, (2, 1, 3)))
        self.assertEqual(behind(RISING, falls, 0), (4, (2, 1, 0)))

    def test_all_none_and_some(self):
        self.assertEqual(nexts(RISING, START), [0, 1, 2, 3, 4])
        self.assertEqual(nexts(RISING, (1, (2,))), [3, 4])
        self.assertEqual(nexts(RISING, (4, (2, 3, 4))), [])
        self.assertEqual(nexts(plain(7, 4, 4), (5, (6, 5, 4, 3, 2))), [0, 1, 2, 3, 4, 5, 6])

    def test_the_turns_come_round(self):
        house = plain(1, 3, 3)
        stand = START
        turns = []
        for note in range(12):
            turns.append(stand[0])
            stand = behind(house, stand, 0)
        self.assertEqual(turns, [0, 1, 2, 3, 4, 5, 6, 4, 5, 6, 4, 5])

    def test_behind_a_note_that_may_not_follow(self):
        self.assertEqual(behind(RISING, (1, (3,)), 0), (2, (3, 0)))
        self.assertEqual(behind(RISING, (2, (3, 4)), 4), (3, (3, 4, 4)))

    def test_what_they_tell_is_the_askers_own(self):
        told = nexts(RISING, START)
        told.clear()
        self.assertEqual(nexts(RISING, START), [0, 1, 2, 3, 4])
        nexts(RISING, (4, (2, 3, 4))).append(1)
        self.assertEqual(nexts(RISING, (4, (2, 3, 4))), [])
        self.assertIs(type(behind(RISING, START, 0)[1]), tuple)


class Come(unittest.TestCase):
    def test_few(self):
        house = plain(1, 2, 4)
        right = [(turn, (0,) * min(turn, 5)) for turn in range(7)]
        self.assertEqual(come(house, START), right)
        self.assertEqual(come(house, (4, (0,) * 4)), right[4:])
        self.assertEqual(come(house, (6, (0,) * 5)), right[5:])

    def test_itself_alone_where_none_may_follow(self):
        self.assertEqual(come(RISING, (4, (2, 3, 4))), [(4, (2, 3, 4))])
        self.assertEqual(come(RISING, (1, (4,))), [(1, (4,))])
        nothing = house_of(7, 1, 1, [(0, 0, False)], [("range", 60, 60)])
        self.assertEqual(come(nothing, START), [START])

    def test_a_stand_that_does_not_come_again_is_in_it(self):
        right = [(2, (4, 2)), (3, (4, 2, 3)), (3, (4, 2, 4)), (4, (2, 3, 4))]
        self.assertEqual(come(RISING, (2, (4, 2))), right)

    def test_by_notes_that_may_follow_alone(self):
        told = come(RISING, START)
        self.assertEqual([stand for stand in told if stand[0] <= 2],
                         [(len(tail), tail) for many in range(3) for tail in itertools.combinations(range(5), many)])
        self.assertEqual([stand for stand in told if list(stand[1]) != sorted(set(stand[1]))], [])

    def test_against_the_second_reading(self):
        many_stands = {}
        for house in made_houses(9, 150, 3):
            right = sorted(come_read(house, []))
            many_stands[len(right)] = True
            if len(right) > 150:
                with self.assertRaises(TooMany):
                    come(house, START)
            else:
                self.assertEqual(come(house, START), right, house)
        self.assertGreater(max(many_stands), 150)
        self.assertGreater(len(many_stands), 20)

    def test_from_other_stands_against_the_second_reading(self):
        for house in made_houses(10, 20, 2):
            for stand in all_stands(house)[::5]:
                right = sorted(come_read(house, lines_to(house, stand)[-1]))
                if len(right) <= 150:
                    self.assertEqual(come(house, stand), right, (house, stand))

    def test_just_150_and_one_more(self):
        self.assertEqual(len(come_read(WITH_150, [])), 150)
        self.assertEqual(come(WITH_150, START), sorted(come_read(WITH_150, [])))
        self.assertEqual(len(come_read(WITH_151, [])), 151)
        with self.assertRaises(TooMany) as caught:
            come(WITH_151, START)
        self.assertIs(type(caught.exception), TooMany)
        self.assertIsInstance(caught.exception, CanonError)

    def test_it_is_the_stand_asked_for_that_counts(self):
        with self.assertRaises(TooMany):
            come(WITH_156, START)
        self.assertEqual(len(come(WITH_156, (1, (3,)))), 1 + 5 + 125)
        self.assertEqual(len(come(WITH_156, (3, (1, 2, 3)))), 125)
        self.assertEqual(len(come(WITH_151, (1, (0,)))), 1 + 2 + 5 + 123)

    def test_far_too_many(self):
        with self.assertRaises(TooMany):
            come(plain(7, 4, 4, 4, 4), START)
        with self.assertRaises(TooMany):
            come(plain(7, 4, 4), (8, (6, 6, 6, 6, 6)))

    def test_what_is_told_is_the_askers_own(self):
        told = come(RISING, START)
        right = list(told)
        told.clear()
        self.assertEqual(come(RISING, START), right)
        self.assertEqual([type(stand) for stand in right], [tuple] * len(right))


class Kept(unittest.TestCase):
    def test_house_and_line_stay(self):
        house, line, stand = RISING, [0, 2, 3, 4], (4, (2, 3, 4))
        before = copy.deepcopy((house, line, stand))
        memory(house), stand_of(house, line), is_stand(house, stand)
        nexts(house, stand), behind(house, stand, 1), come(house, stand)
        self.assertEqual((house, line, stand), before)

    def test_the_line_changed_behind_the_call(self):
        line = [0, 2, 3, 4]
        told = stand_of(RISING, line)
        line[3] = 0
        line.append(1)
        self.assertEqual(told, (4, (2, 3, 4)))

    def test_the_memories_are_those_of_the_second_reading(self):
        for house in made_houses(11, 50, 7):
            self.assertEqual(memory(house), memory_read(house))


if __name__ == "__main__":
    unittest.main()
