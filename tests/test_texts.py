"""Texts of houses and of lines: how they are written, and that just these are read."""

import random
import unittest

from canonwright.errors import CanonError, NoText
from canonwright.houses import WAYS, house_of
from canonwright.texts import read_house, read_line, show_house, show_line
from tests.reading import is_house_text, made_houses, written

EVERY = house_of(7, 4, 12, [(0, 0, False), (4, -12, True), (1, 12, False)],
                 [("span", 0, 0b000010001001), ("leap", 0), ("back", 12, 1), ("again", 3), ("range", -60, 60),
                  ("above", 3, 0), ("never", 0, 11, "against"), ("span", 3, 0)])
EVERY_TEXT = """notes 7
bar 4
octave 12
voice 0 0
voice 4 -12 turned
voice 1 12
span 0 0,3,7
leap 0
back 12 1
again 3
range -60 60
above 3 0
never 0 11 against
span 3 -"""
BARE = house_of(1, 1, 1, [(0, 0, False)], [])
BARE_TEXT = "notes 1\nbar 1\noctave 1\nvoice 0 0"
NO_TEXTS = (None, 0, 7, -1, True, False, [], ["notes 1"], list(BARE_TEXT), (), ("0",), {}, b"", BARE_TEXT.encode(), BARE)
OTHER_FIGURES = ("\u0661", "\u0967", "\uff11", "\u00b9", "\u2460", "\u4e00", "\U0001d7cf")


def with_row(row, place=-1):
    """The text with every kind of row, this one in the place of another, of the last if none is told."""
    rows = EVERY_TEXT.split("\n")
    rows[place] = row
    return "\n".join(rows)


class Case(unittest.TestCase):
    def no(self, text):
        with self.assertRaises(CanonError, msg=repr(text)) as caught:
            read_house(text)
        self.assertIs(type(caught.exception), NoText, repr(text))

    def yes(self, text):
        house = read_house(text)
        self.assertEqual(show_house(house), text)
        self.assertEqual(house_of(house[0], house[1], house[2], list(house[3]), list(house[4])), house)
        self.assertEqual([type(part) for part in house], [int, int, int, tuple, tuple])
        for late, shift, turned in house[3]:
            self.assertEqual([type(late), type(shift), type(turned)], [int, int, bool])
        return house


class ShowHouse(Case):
    def test_every_kind_of_row(self):
        self.assertEqual(show_house(EVERY), EVERY_TEXT)

    def test_no_rules(self):
        self.assertEqual(show_house(BARE), BARE_TEXT)

    def test_spans(self):
        for spans, right in ((0, "-"), (1, "0"), (2, "1"), (3, "0,1"), (1 << 11, "11"), (0b110000000000, "10,11"),
                             (0b11111, "0,1,2,3,4"), ((1 << 12) - 1, "0,1,2,3,4,5,6,7,8,9,10,11")):
            house = house_of(2, 3, 12, [(1, 0, False)], [("span", 2, spans)])
            text = "notes 2\nbar 3\noctave 12\nvoice 1 0\nspan 2 " + right
            self.assertEqual(show_house(house), text)
            self.assertEqual(read_house(text), house)

    def test_each_way(self):
        for way in WAYS:
            house = house_of(2, 3, 12, [(1, 0, False)], [("never", 4, 4, way)])
            self.assertEqual(show_house(house), "notes 2\nbar 3\noctave 12\nvoice 1 0\nnever 4 4 " + way)

    def test_many_houses(self):
        for house in made_houses(41, 300, 7):
            self.assertEqual(show_house(house), written(house))


class ReadHouse(Case):
    def test_every_kind_of_row(self):
        self.assertEqual(self.yes(EVERY_TEXT), EVERY)
        self.assertEqual(self.yes(BARE_TEXT), BARE)

    def test_each_number_at_its_edges(self):
        for place, word, low, high in ((0, "notes", 1, 7), (1, "bar", 1, 4), (2, "octave", 1, 12)):
            rows = BARE_TEXT.split("\n")
            for number in (low, high):
                rows[place] = f"{word} {number}"
                self.assertEqual(self.yes("\n".join(rows))[place], number)
            for number in (low - 1, high + 1, -1, -low, 10 ** 59, 10 ** 60, -10 ** 60):
                rows[place] = f"{word} {number}"
                self.no("\n".join(rows))

    def test_voices_at_their_edges(self):
        for row in ("voice 0 -12", "voice 4 12", "voice 4 -12 turned", "voice 0 12 turned", "voice 0 0"):
            self.yes(with_row(row, 3))
        for row in ("voice -1 0", "voice 5 0", "voice 0 -13", "voice 0 13", "voice 0 13 turned", "voice -1 0 turned"):
            self.no(with_row(row, 3))

    def test_rules_at_their_edges(self):
        for row in ("span 0 -", "span 3 0", "span 0 11", "leap 0", "leap 12", "back 1 1", "back 12 12", "again 1", "again 3",
                    "range -60 -60", "range 60 60", "range 0 0", "above 0 3", "above 3 2", "never 0 0 any", "never 11 11 like"):
            self.yes(with_row(row))
        for row in ("span -1 -", "span 4 0", "span 0 12", "span 0 -1", "span 0 0,12", "leap -1", "leap 13", "back 0 1",
                    "back 1 0", "back 13 1", "back 1 13", "again 0", "again 4", "again -1", "range -61 0", "range 0 61",
                    "range 1 0", "range 60 -60", "above 0 0", "above 3 3", "above 0 4", "above 4 0", "above -1 0",
                    "above 0 -1", "never 12 0 any", "never 0 12 any", "never -1 0 any", "never 0 -1 like"):
            self.no(with_row(row))

    def test_numbers_of_many_figures(self):
        for many in (59, 60, 61, 300, 1900, 4300, 4301, 6000):
            for figures in ("9" * many, "1" + "0" * (many - 1), "-" + "9" * many):
                for row in ("leap " + figures, "span 0 " + figures, "span " + figures + " 0", "range -60 " + figures,
                            "range " + figures + " 60", "above 0 " + figures, "never " + figures + " 0 any"):
                    self.no(with_row(row))
                self.no(with_row("notes " + figures, 0))
                self.no(with_row("voice 0 " + figures, 3))

    def test_spans_of_a_smaller_octave(self):
        text = "notes 2\nbar 3\noctave 5\nvoice 1 0\n"
        self.yes(text + "span 2 0,1,2,3,4")
        self.no(text + "span 2 0,1,2,3,4,5")
        self.no(text + "span 2 5")
        self.no(text + "never 5 0 any")

    def test_a_rule_of_other_voices(self):
        self.yes(BARE_TEXT + "\nabove 0 1")
        self.no(BARE_TEXT + "\nabove 0 2")
        self.no(BARE_TEXT + "\nabove 2 1")
        self.yes(BARE_TEXT + "\nvoice 0 0\nabove 0 2")
        self.no(BARE_TEXT + "\nvoice 0 0\nabove 3 2")

    def test_how_many_voices(self):
        frame = "notes 1\nbar 1\noctave 1"
        self.no(frame)
        for many in range(1, 4):
            self.assertEqual(len(self.yes(frame + "\nvoice 0 0" * many)[3]), many)
        for many in (4, 5, 9, 150):
            self.no(frame + "\nvoice 0 0" * many)
        self.no(frame + "\nleap 1")

    def test_how_many_rules(self):
        for many in range(9):
            self.assertEqual(len(self.yes(BARE_TEXT + "\nleap 1" * many)[4]), many)
        for many in (9, 10, 200):
            self.no(BARE_TEXT + "\nleap 1" * many)

    def test_too_few_rows(self):
        rows = EVERY_TEXT.split("\n")
        for many in range(4):
            self.no("\n".join(rows[:many]))
        for many in range(4, len(rows) + 1):
            self.yes("\n".join(rows[:many]))

    def test_a_row_left_out(self):
        rows = BARE_TEXT.split("\n")
        for place in range(4):
            self.no("\n".join(rows[:place] + rows[place + 1:]))

    def test_a_row_twice(self):
        rows = BARE_TEXT.split("\n")
        for place in range(3):
            self.no("\n".join(rows[:place + 1] + rows[place:]))
            self.no("\n".join(rows + rows[place:place + 1]))

    def test_a_blank_more_at_any_place(self):
        for place in range(len(EVERY_TEXT) + 1):
            self.no(EVERY_TEXT[:place] + " " + EVERY_TEXT[place:])

    def test_a_blank_less_at_any_place(self):
        for place, sign in enumerate(EVERY_TEXT):
            if sign == " ":
                self.no(EVERY_TEXT[:place] + EVERY_TEXT[place + 1:])

    def test_another_sign_in_the_place_of_a_blank(self):
        for place, sign in enumerate(EVERY_TEXT):
            if sign == " ":
                for other in ("\t", "\n", "\u00a0", "\r", ",", "_", "\u2003", "\x00"):
                    self.no(EVERY_TEXT[:place] + other + EVERY_TEXT[place + 1:])

    def test_a_line_feed_more_at_any_place(self):
        for place in range(len(EVERY_TEXT) + 1):
            self.no(EVERY_TEXT[:place] + "\n" + EVERY_TEXT[place:])

    def test_an_empty_line(self):
        rows = EVERY_TEXT.split("\n")
        for place in range(len(rows) + 1):
            self.no("\n".join(rows[:place] + [""] + rows[place:]))
            self.no("\n".join(rows[:place] + [" "] + rows[place:]))

    def test_other_ends_of_rows(self):
        for end in ("\r\n", "\r", "\n\n", "\x0b", "\x0c", "\u2028", "\x85", " \n", "\n ", ";", ""):
            self.no(EVERY_TEXT.replace("\n", end))
        for behind in ("\n", "\r", "\r\n", " ", "\t", "\x00", "\ufeff"):
            self.no(EVERY_TEXT + behind)
            self.no(behind + EVERY_TEXT)
            self.no(BARE_TEXT + behind)

    def test_how_numbers_are_written(self):
        for row in ("leap 01", "leap 00", "leap -0", "leap +1", "leap +0", "leap 1.0", "leap 1e0", "leap 0x1", "leap 1_1",
                    "leap --1", "leap -", "leap ", "leap", "leap one", "leap '1'", "range -00 1", "range -01 1", "range +0 1",
                    "range 0 -0", "range - 1", "range 1- 2", "range \u22121 2", "span 0 00", "span 0 01", "span 00 1",
                    "span -0 1", "span 0 -0", "span 0 +1", "never 00 1 any", "never 0 01 any", "above 03 1"):
            self.no(with_row(row))
        for place, row in ((0, "notes 07"), (0, "notes +7"), (1, "bar 04"), (2, "octave 012"), (3, "voice 00 0"),
                           (3, "voice 0 -0"), (3, "voice 0 00"), (3, "voice 0 +1"), (3, "voice 0 -01"), (3, "voice -0 0")):
            self.no(with_row(row, place))

    def test_other_figures(self):
        for figure in OTHER_FIGURES:
            for row in ("leap ", "again ", "span 0 ", "span 0 0,", "range 0 ", "back 1 "):
                self.no(with_row(row + figure))
            self.no(with_row("notes " + figure, 0))
            self.no(with_row("voice 0 " + figure, 3))
            self.no(with_row("voice " + figure + " 0", 3))
            self.no(with_row("leap 1" + figure))

    def test_how_spans_are_written(self):
        for spans in ("", ",", "1,", ",1", "1,,2", "1, 2", "1 2", "2,1", "1,1", "0,0", "0,2,1", "0,1,1", "3,0", "-,1", "1,-",
                      "--", "-1", "1-2", "0;1", "0.1", "none", "0,1,2,3,4,5,6,7,8,9,11,10", "10,9", "2,10,3"):
            self.no(with_row("span 0 " + spans))
        self.no(with_row("span 0"))
        self.no(with_row("span 0 - -"))
        self.yes(with_row("span 0 9,10"))
        self.yes(with_row("span 0 2,10"))

    def test_words_in_capitals(self):
        for place, sign in enumerate(EVERY_TEXT):
            if sign.isalpha():
                self.no(EVERY_TEXT[:place] + sign.upper() + EVERY_TEXT[place + 1:])
        self.no(EVERY_TEXT.upper())
        self.no(EVERY_TEXT.title())

    def test_other_words(self):
        for row in ("jump 1", "", "1", "turned", "voices 0 0", "leaps 1", "spans 0 1", "leap 1 2", "leap 1 any", "back 1",
                    "back 1 1 1", "again 1 1", "range 0", "range 0 1 2", "above 0", "above 0 1 2", "above 0 1 any", "never 0 1",
                    "never 0 1 up", "never 0 1 Like", "never 0 1 any any", "never 0 any", "never any 0 1", "never 0 1 2",
                    "span 0 1 2", "span", "never", "octave 12", "rule leap 1", "leap=1", "leap:1", "never 0 1 "):
            self.no(with_row(row))
        for row in ("voice 0", "voice", "voice 0 0 0", "voice 0 0 Turned", "voice 0 0 turned turned", "voice turned 0 0",
                    "voice 0 turned", "voice 0 turned 0", "voice 0 0 plain", "voice 0 0 True", "voice 0 0 ", "leader 0 0"):
            self.no(with_row(row, 3))
        for place, rows in enumerate((("note 7", "notes", "7", "notes 7 7", "notes=7", "bar 4"), ("bars 4", "bar", "4", "notes 4"),
                                      ("octaves 12", "octave", "12", "voice 12"))):
            for row in rows:
                self.no(with_row(row, place))

    def test_parts_in_another_order(self):
        rows = EVERY_TEXT.split("\n")
        for one in range(len(rows)):
            for other in range(one):
                changed = list(rows)
                changed[one], changed[other] = rows[other], rows[one]
                if (other < 3 or one < 3) or (other < 6) != (one < 6):
                    self.no("\n".join(changed))
                else:
                    self.yes("\n".join(changed))
        self.no("\n".join(rows[::-1]))
        self.no(BARE_TEXT + "\nleap 1\nvoice 0 0")

    def test_what_is_no_text(self):
        for thing in NO_TEXTS:
            self.no(thing)

    def test_the_text_without_signs(self):
        self.no("")
        self.no(" ")
        self.no("\n")
        self.no("\n\n\n")
        self.no("   \n  \n \n ")

    def test_long_texts(self):
        self.no("leap 1\n" * 300)
        self.no("x" * 2000)
        self.no(" " * 2000)
        self.no("\n" * 2000)
        self.no(EVERY_TEXT + "\n" + "leap 1" * 300)
        self.no(with_row("span 0 " + ",".join(["1"] * 900)))

    def test_each_others_way_back(self):
        for house in made_houses(42, 300, 7):
            self.assertEqual(self.yes(show_house(house)), house)

    def test_texts_hurt_at_one_place(self):
        draw = random.Random(43)
        signs = "0123456789-, \nabeglnortuv+"
        read = 0
        for house in made_houses(44, 150, 7):
            text = written(house)
            for hurt in range(100):
                place, sign = draw.randrange(len(text) + 1), draw.choice(signs)
                other = text[:place] + draw.choice(["", sign]) + text[place + draw.randrange(2):]
                if is_house_text(other):
                    self.yes(other)
                    read += other != text
                else:
                    self.no(other)
        self.assertGreater(read, 100)

    def test_texts_with_a_row_of_another(self):
        draw = random.Random(45)
        houses = made_houses(46, 150, 7)
        read = 0
        for house in houses:
            rows = written(house).split("\n")
            for hurt in range(8):
                changed = list(rows)
                other = draw.choice(written(draw.choice(houses)).split("\n"))
                changed[draw.randrange(len(rows))] = other
                if draw.random() < 0.5:
                    changed.insert(draw.randrange(len(rows)), other)
                text = "\n".join(changed)
                if is_house_text(text):
                    self.yes(text)
                    read += 1
                else:
                    self.no(text)
        self.assertGreater(read, 100)


class ShowLine(unittest.TestCase):
    def test_notes_with_blanks_between(self):
        self.assertEqual(show_line([]), "")
        self.assertEqual(show_line([0]), "0")
        self.assertEqual(show_line([6, 0, 3]), "6 0 3")
        self.assertEqual(show_line([1] * 400), "1" + " 1" * 399)


class ReadLine(unittest.TestCase):
    house = house_of(4, 1, 1, [(0, 0, False)], [])

    def no(self, text, house=None):
        with self.assertRaises(CanonError, msg=repr(text)) as caught:
            read_line(house or self.house, text)
        self.assertIs(type(caught.exception), NoText, repr(text))

    def yes(self, line, house=None):
        self.assertEqual(read_line(house or self.house, show_line(line)), line)

    def test_lines(self):
        self.assertEqual(read_line(self.house, ""), [])
        self.assertEqual(read_line(self.house, "0"), [0])
        self.assertEqual(read_line(self.house, "3 0 1 2 2"), [3, 0, 1, 2, 2])
        self.assertEqual([type(note) for note in read_line(self.house, "1 0")], [int, int])

    def test_each_others_way_back(self):
        draw = random.Random(47)
        for many in list(range(30)) + [100, 399, 400]:
            self.yes([draw.randrange(4) for note in range(many)])

    def test_a_line_that_breaks_rules(self):
        house = house_of(4, 1, 1, [(0, 0, False)], [("leap", 0), ("range", 60, 60)])
        self.yes([0, 3, 0], house)

    def test_four_hundred_and_one_more(self):
        self.yes([3] * 400)
        for many in (401, 402, 500, 1000):
            self.no(show_line([3] * many))
        self.yes([0] * 400, house_of(1, 1, 1, [(0, 0, False)], []))
        self.no(show_line([0] * 401), house_of(1, 1, 1, [(0, 0, False)], []))

    def test_notes_of_another_house(self):
        for notes in range(1, 8):
            house = house_of(notes, 1, 1, [(0, 0, False)], [])
            for note in range(notes):
                self.yes([note, 0, note], house)
            for note in (notes, notes + 1, -1, 8, 10, 70, 10 ** 59, 10 ** 60, -10 ** 59):
                self.no(str(note), house)
                self.no(f"0 {note}", house)
                self.no(f"{note} 0", house)
                self.no(f"0 {note} 0", house)

    def test_how_notes_are_written(self):
        for word in ("00", "01", "-0", "+1", "+0", "1.0", "1_0", "0x1", "--1", "-", "+", "a", "one", "'1'", "[1]", "1,2", "1;2",
                     "\u22121") + OTHER_FIGURES + tuple("9" * many for many in (60, 61, 1900, 4301)):
            self.no(word)
            self.no("0 " + word)
            self.no(word + " 0")
        for figure in OTHER_FIGURES:
            self.no("1" + figure)

    def test_blanks(self):
        text = "3 0 1"
        for place in range(len(text) + 1):
            for sign in (" ", "\n", "\t", "\r", "\u00a0", ","):
                self.no(text[:place] + sign + text[place:])
        for sign in ("\t", "\n", ",", "\u00a0", "\u2003", "  ", ", "):
            self.no(text.replace(" ", sign))
        for text in (" ", "  ", "\n", "\t", " 0", "0 ", "0\n", "\n0", "0  0"):
            self.no(text)

    def test_what_is_no_text(self):
        for thing in NO_TEXTS + ([0, 1], (0, 1), 1):
            self.no(thing)

    def test_what_is_told_is_the_askers_own(self):
        for text in ("", "1 2"):
            told = read_line(self.house, text)
            right = list(told)
            told.append(3)
            self.assertEqual(read_line(self.house, text), right)

    def test_what_is_handed_in_stays(self):
        line = [1, 2]
        show_line(line)
        self.assertEqual(line, [1, 2])


if __name__ == "__main__":
    unittest.main()
