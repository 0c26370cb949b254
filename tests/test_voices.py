"""Where the voices sound, their pitches, spans and scores."""

import unittest

from canonwright.houses import house_of
from canonwright.voices import pitch, score, span, sung

GREAT = int("9" * 60)

# The leader; one two beats late and four up; one a beat late and upside down; one not late, upside down.
HOUSE = house_of(7, 2, 7, [(2, 4, False), (1, 3, True), (0, -5, True)], [])
LINE = [0, 2, 6, 1]


class Pitch(unittest.TestCase):
    def test_plain(self):
        self.assertEqual(pitch((0, 0, False), 5), 5)
        self.assertEqual(pitch((3, 4, False), 5), 9)
        self.assertEqual(pitch((3, -12, False), 5), -7)
        self.assertEqual(pitch((4, 12, False), 6), 18)
        self.assertEqual(pitch((4, 12, False), 0), 12)

    def test_turned(self):
        self.assertEqual(pitch((0, 0, True), 5), -5)
        self.assertEqual(pitch((3, 4, True), 5), -1)
        self.assertEqual(pitch((3, -12, True), 6), -18)
        self.assertEqual(pitch((4, 12, True), 6), 6)
        self.assertEqual(pitch((4, 12, True), 0), 12)

    def test_late_does_not_matter(self):
        for late in range(5):
            self.assertEqual(pitch((late, 1, False), 2), 3)
            self.assertEqual(pitch((late, 1, True), 2), -1)


class Span(unittest.TestCase):
    def test_both_ways_round(self):
        for octave, one, other, right in ((7, 0, 0, 0), (7, 0, 6, 6), (7, 0, 7, 0), (7, 0, 8, 1), (7, -3, 5, 1),
                                          (7, -3, -5, 2), (12, -18, 18, 0), (5, -1, 3, 4), (5, -2, 1, 3),
                                          (1, 4, 9, 0), (2, 4, 9, 1), (12, 0, 11, 11)):
            with self.subTest(octave=octave, one=one, other=other):
                self.assertEqual(span(octave, one, other), right)
                self.assertEqual(span(octave, other, one), right)

    def test_of_great_numbers(self):
        for octave in range(1, 13):
            self.assertEqual(span(octave, GREAT, 0), GREAT % octave)
            self.assertEqual(span(octave, 0, GREAT), GREAT % octave)
            self.assertEqual(span(octave, -GREAT, 0), GREAT % octave)
            self.assertEqual(span(octave, -GREAT, GREAT), (2 * GREAT) % octave)
            self.assertEqual(span(octave, GREAT, -GREAT), (2 * GREAT) % octave)
            self.assertEqual(span(octave, GREAT, GREAT), 0)
            self.assertEqual(span(octave, GREAT, GREAT - 1), 1 % octave)

    def test_it_is_taken_without_sign_ahead_of_the_octave(self):
        self.assertEqual([span(7, 0, k) for k in range(9)], [0, 1, 2, 3, 4, 5, 6, 0, 1])
        self.assertEqual([span(7, k, 0) for k in range(9)], [0, 1, 2, 3, 4, 5, 6, 0, 1])


class Sung(unittest.TestCase):
    def beats(self, voice, many):
        return [sung(HOUSE, LINE, voice, beat) for beat in range(many)]

    def test_the_leader(self):
        self.assertEqual(self.beats(0, 6), [0, 2, 6, 1, None, None])

    def test_a_plain_late_follower(self):
        self.assertEqual(self.beats(1, 8), [None, None, 4, 6, 10, 5, None, None])

    def test_a_turned_late_follower(self):
        self.assertEqual(self.beats(2, 7), [None, 3, 1, -3, 2, None, None])

    def test_a_turned_follower_that_is_not_late(self):
        self.assertEqual(self.beats(3, 6), [-5, -7, -11, -6, None, None])

    def test_the_latest(self):
        house = house_of(2, 1, 1, [(4, 12, False)], [])
        self.assertEqual([sung(house, [1], 1, beat) for beat in range(7)], [None] * 4 + [13] + [None] * 2)

    def test_far_behind_the_end(self):
        for voice in range(4):
            self.assertIsNone(sung(HOUSE, LINE, voice, GREAT))

    def test_the_line_without_notes(self):
        for voice in range(4):
            for beat in range(6):
                self.assertIsNone(sung(HOUSE, [], voice, beat))

    def test_a_pitch_of_nought_is_no_silence(self):
        self.assertEqual(sung(HOUSE, LINE, 0, 0), 0)
        self.assertIsNotNone(sung(HOUSE, LINE, 0, 0))

    def test_the_line_stays(self):
        line = list(LINE)
        for voice in range(4):
            sung(HOUSE, line, voice, 2)
        self.assertEqual(line, LINE)


class Score(unittest.TestCase):
    right = [[0, None, None, -5], [2, None, 3, -7], [6, 4, 1, -11], [1, 6, -3, -6]]

    def test_each_beat_with_each_voice(self):
        self.assertEqual(score(HOUSE, LINE), self.right)

    def test_of_one_follower(self):
        house = house_of(3, 1, 3, [(1, -2, False)], [])
        self.assertEqual(score(house, [2, 0, 1]), [[2, None], [0, 0], [1, -2]])

    def test_of_no_notes(self):
        self.assertEqual(score(HOUSE, []), [])

    def test_of_one_note(self):
        self.assertEqual(score(HOUSE, [4]), [[4, None, None, -9]])

    def test_of_many_notes(self):
        told = score(HOUSE, [k % 7 for k in range(400)])
        self.assertEqual(len(told), 400)
        self.assertEqual(told[399], [0, 397 % 7 + 4, 3 - 398 % 7, -5])

    def test_lists_all_through(self):
        for told in (score(HOUSE, LINE), score(HOUSE, [])):
            self.assertIs(type(told), list)
            for item in told:
                self.assertIs(type(item), list)

    def test_the_told_lists_are_the_askers_own(self):
        told = score(HOUSE, LINE)
        again = score(HOUSE, LINE)
        told[0][0] = 99
        told[1].clear()
        told.pop()
        self.assertEqual(again, self.right)
        self.assertEqual(score(HOUSE, LINE), self.right)

    def test_no_list_within_stands_twice(self):
        told = score(HOUSE, [3, 3, 3, 3])
        told[2][0] = 99
        self.assertEqual([item[0] for item in told], [3, 3, 99, 3])

    def test_the_line_stays_and_may_change_behind_the_call(self):
        line = list(LINE)
        told = score(HOUSE, line)
        self.assertEqual(line, LINE)
        line[0] = 5
        line.append(1)
        self.assertEqual(told, self.right)

    def test_the_told_list_of_no_notes_is_a_new_one(self):
        score(HOUSE, []).append([1])
        self.assertEqual(score(HOUSE, []), [])


if __name__ == "__main__":
    unittest.main()
