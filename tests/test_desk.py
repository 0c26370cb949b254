"""The desk: each row and its answer, each refusal, and that what is refused changes nothing."""

import random
import unittest

from canonwright.changes import line_over, turned_over, without
from canonwright.compare import less, needed
from canonwright.counts import count, nth
from canonwright.desk import Desk
from canonwright.errors import Broken, CanonError, NoHouse, NoNote, NoNumber, NoRow, NoText, TooMany
from canonwright.ever import onward
from canonwright.houses import house_of
from canonwright.texts import read_house, read_line, show_house
from tests.reading import breaks_read, made_houses, may_follow, most_read, written

FREE = "notes 3\nbar 1\noctave 12\nvoice 0 0"
RISING = "notes 4\nbar 2\noctave 12\nvoice 1 0\nabove 0 1\nagain 1"
# More than 150 stands come from the line without notes.
WIDE = "notes 7\nbar 4\noctave 12\nvoice 4 0\nleap 5"
# Two followers and rules of all sorts.
EVERY = ("notes 4\nbar 2\noctave 8\nvoice 1 2\nvoice 2 6 turned\nspan 1 0,1,2,4,5,6,7\nleap 2\nback 2 2\nagain 2\n"
         "range 0 5\nabove 2 1\nnever 2 3 aside\nnever 0 3 any")
ROWS = ("sing 0", "back", "line", "house", "next", "broken", "onward", "count 1", "nth 1 0", "needed 0", "less 0", "without 1",
        "over")
ASKING = ("line", "house", "next", "broken")
SIXTY = "1" + "0" * 59
OTHER_FIGURES = ("\u0661", "\uff11", "\u00b9", "\u2460", "\u4e00")


def sung(text, line):
    desk = Desk(text)
    for note in line:
        desk.say(f"sing {note}")
    return desk


class Case(unittest.TestCase):
    def says(self, desk, row, right):
        found = desk.say(row)
        self.assertIs(type(found), str, row)
        self.assertEqual(found, right, row)

    def refused(self, desk, row, kind):
        """The row is refused so, and nothing is changed by it; the refusal is given back."""
        before = [desk.say(ask) for ask in ASKING]
        with self.assertRaises(CanonError, msg=repr(row)) as caught:
            desk.say(row)
        self.assertIs(type(caught.exception), kind, repr(row))
        self.assertEqual([desk.say(ask) for ask in ASKING], before, repr(row))
        return caught.exception


class Made(Case):
    def test_of_a_text(self):
        for text in (FREE, RISING, WIDE, EVERY):
            desk = Desk(text)
            self.says(desk, "house", text)
            self.says(desk, "line", "")

    def test_of_no_text_of_a_house(self):
        for thing in ("", "notes 3", FREE + "\n", " " + FREE, FREE + "\nleap 13", FREE + "\nabove 0 2", "sing 0", None, 7, True,
                      [FREE], read_house(FREE), FREE.encode(), FREE.upper(), FREE.replace("voice", "voices")):
            with self.assertRaises(CanonError) as caught:
                Desk(thing)
            self.assertIs(type(caught.exception), NoText)

    def test_two_desks_are_apart(self):
        one, other = Desk(FREE), Desk(FREE)
        one.say("sing 1")
        self.says(other, "line", "")
        other.say("sing 2")
        other.say("over")
        self.says(one, "line", "1")
        self.says(other, "line", "0")


class Singing(Case):
    def test_sing(self):
        desk = Desk(FREE)
        for many, note in enumerate((2, 0, 1), start=1):
            self.says(desk, f"sing {note}", "ok")
            self.says(desk, "line", " ".join("201"[:many]))

    def test_sing_what_breaks_a_rule(self):
        desk = Desk(RISING)
        self.says(desk, "sing 3", "ok")
        self.says(desk, "sing 1", "ok")
        self.says(desk, "line", "3 1")
        self.says(desk, "broken", "1 0 0 1")
        self.says(desk, "sing 1", "ok")
        self.says(desk, "line", "3 1 1")

    def test_a_note_that_the_house_has_not(self):
        for notes in range(1, 8):
            desk = Desk(f"notes {notes}\nbar 1\noctave 12\nvoice 0 0")
            for note in range(notes):
                self.says(desk, f"sing {note}", "ok")
            for note in (notes, notes + 1, -1, -notes, 10, SIXTY, "-" + SIXTY, "9" * 60):
                self.refused(desk, f"sing {note}", NoNote)

    def test_sixty_notes_and_one_more(self):
        desk = Desk(FREE)
        for note in range(60):
            self.says(desk, f"sing {note % 3}", "ok")
        self.says(desk, "line", " ".join(["0 1 2"] * 20))
        for note in (0, 1, 2, 3, -1):
            self.refused(desk, f"sing {note}", NoNote)
        self.says(desk, "next", "0 1 2")
        self.says(desk, "back", "ok")
        self.says(desk, "sing 0", "ok")
        self.refused(desk, "sing 0", NoNote)
        self.says(desk, "line", " ".join(["0 1 2"] * 19) + " 0 1 0")

    def test_no_row_goes_ahead_of_no_note(self):
        desk = sung(FREE, [0] * 60)
        for row in ("sing", "sing 00", "sing 0 0", "sing -0", "sing x"):
            self.refused(desk, row, NoRow)
        for row in ("back 1", "back ", "back -1"):
            self.refused(Desk(FREE), row, NoRow)

    def test_back(self):
        desk = sung(RISING, [3, 1, 0])
        for right in ("3 1", "3", ""):
            self.says(desk, "back", "ok")
            self.says(desk, "line", right)
        self.refused(desk, "back", NoNote)
        self.says(desk, "sing 2", "ok")
        self.says(desk, "line", "2")

    def test_back_of_a_line_without_notes(self):
        for text in (FREE, RISING, WIDE):
            self.refused(Desk(text), "back", NoNote)


class Asking(Case):
    def test_next(self):
        desk = Desk(RISING)
        self.says(desk, "next", "0 1 2 3")
        for note, right in ((1, "2 3"), (2, "3"), (3, "none")):
            desk.say(f"sing {note}")
            self.says(desk, "next", right)

    def test_next_of_a_line_that_is_broken(self):
        self.says(sung(RISING, [3, 1]), "next", "2 3")
        self.says(sung(RISING, [3, 3]), "next", "none")

    def test_next_where_too_many_stands_come(self):
        self.says(Desk(WIDE), "next", "0 1 2 3 4 5 6")
        self.says(sung(WIDE, [0]), "next", "0 1 2 3 4 5")

    def test_broken(self):
        self.says(Desk(RISING), "broken", "none")
        self.says(sung(RISING, [0, 1, 3]), "broken", "none")
        # The line's own, and by two voices.
        self.says(sung(RISING, [1, 1]), "broken", "1 1")
        self.says(sung(RISING, [1, 0, 0]), "broken", "1 0 0 1; 2 1")
        # By one voice, and by two in the rule's own order.
        text = "notes 4\nbar 1\noctave 12\nvoice 0 5\nvoice 1 9 turned\nrange 0 7\nabove 0 2\nspan 0 5"
        self.says(sung(text, [3, 0]), "broken", "0 0 1; 1 1 0 2; 1 2 0 2; 1 2 1 2")

    def test_broken_against_the_breaks(self):
        draw = random.Random(51)
        for house in made_houses(52, 60, 5):
            line = [draw.randrange(house[0]) for note in range(draw.randrange(9))]
            rows = [" ".join(str(part) for part in (beat, number, *voices)) for beat, number, voices in breaks_read(house, line)]
            self.says(sung(show_house(house), line), "broken", "; ".join(rows) if rows else "none")

    def test_onward(self):
        self.says(Desk(FREE), "onward", "round")
        self.says(Desk(RISING), "onward", "ends 4")
        self.says(sung(RISING, [1]), "onward", "ends 2")
        self.says(sung(RISING, [3]), "onward", "ends 0")
        self.assertEqual(self.refused(sung(RISING, [2, 1]), "onward", Broken).first, (1, 0, (0, 1)))
        self.refused(Desk(WIDE), "onward", TooMany)
        # Broken goes ahead of TooMany.
        self.assertEqual(self.refused(sung(WIDE, [0, 6]), "onward", Broken).first, (1, 0, ()))

    def test_count(self):
        desk = Desk(FREE)
        for n in (0, 1, 2, 40):
            self.says(desk, f"count {n}", str(3 ** n))
        desk = sung(RISING, [0])
        for n, right in enumerate((1, 3, 3, 1, 0, 0)):
            self.says(desk, f"count {n}", str(right))

    def test_count_is_refused(self):
        for n in (-1, 41, 100, SIXTY, "-" + SIXTY):
            self.refused(Desk(FREE), f"count {n}", NoNumber)
            # A number of notes goes ahead of TooMany, Broken ahead of both.
            self.refused(Desk(WIDE), f"count {n}", NoNumber)
            self.refused(sung(WIDE, [6, 0]), f"count {n}", Broken)
        self.refused(Desk(WIDE), "count 0", TooMany)
        self.refused(Desk(WIDE), "count 40", TooMany)
        self.assertEqual(self.refused(sung(RISING, [1, 1]), "count 1", Broken).first, (1, 1, ()))

    def test_nth(self):
        desk = sung(RISING, [0])
        for number, right in enumerate(("1 2", "1 3", "2 3")):
            self.says(desk, f"nth 2 {number}", right)
        self.says(desk, "nth 3 0", "1 2 3")
        self.says(desk, "nth 0 0", "")
        self.says(Desk(FREE), f"nth 40 {3 ** 40 - 1}", " ".join(["2"] * 40))

    def test_nth_is_refused(self):
        desk = sung(RISING, [0])
        for row in ("nth 2 3", "nth 2 -1", "nth 0 1", "nth 4 0", "nth -1 0", "nth 41 0", f"nth 2 {SIXTY}", f"nth {SIXTY} 0",
                    f"nth -{SIXTY} -{SIXTY}"):
            self.refused(desk, row, NoNumber)
        self.refused(Desk(WIDE), "nth 41 0", NoNumber)
        # A number that no list has comes behind TooMany.
        self.refused(Desk(WIDE), "nth 1 -1", TooMany)
        self.refused(sung(WIDE, [0, 6]), "nth 41 -1", Broken)

    def test_needed(self):
        desk = Desk(EVERY)
        for k, right in enumerate(("1 0", "0 3", "1 3 3", "1 1 1", "0 0 1", "2 3 1", "1 1 0", "1 3 2")):
            self.says(desk, f"needed {k}", "needed " + right)
        desk = Desk(RISING + "\nagain 2\nleap 3")
        self.says(desk, "needed 0", "needed 1 0")
        self.says(desk, "needed 1", "needed 0 0")
        self.says(desk, "needed 2", "follows")
        self.says(desk, "needed 3", "follows")

    def test_needed_does_not_hang_on_the_line(self):
        self.says(sung(RISING, [3, 0, 0]), "needed 1", "needed 0 0")

    def test_needed_is_refused(self):
        for k in (-1, 2, 3, SIXTY, "-" + SIXTY):
            self.refused(Desk(RISING), f"needed {k}", NoNumber)
            self.refused(Desk(WIDE), f"needed {k}", NoNumber)
        self.refused(Desk(FREE), "needed 0", NoNumber)
        self.refused(Desk(WIDE), "needed 0", TooMany)


class Changing(Case):
    def test_less(self):
        desk = sung(RISING, [2, 1, 1])
        self.says(desk, "broken", "1 0 0 1; 2 1")
        self.says(desk, "less 0", "ok")
        self.says(desk, "line", "2 1 1")
        self.says(desk, "house", "notes 4\nbar 2\noctave 12\nvoice 1 0\nagain 1")
        self.says(desk, "broken", "2 0")
        self.says(desk, "next", "0 2 3")
        self.refused(desk, "less 1", NoNumber)
        self.says(desk, "less 0", "ok")
        self.says(desk, "house", "notes 4\nbar 2\noctave 12\nvoice 1 0")
        self.says(desk, "broken", "none")
        self.says(desk, "next", "0 1 2 3")
        self.refused(desk, "less 0", NoNumber)

    def test_less_is_refused(self):
        for k in (-1, 2, 8, SIXTY, "-" + SIXTY):
            self.refused(Desk(RISING), f"less {k}", NoNumber)
        self.refused(Desk(FREE), "less 0", NoNumber)

    def test_answers_behind_less(self):
        desk = Desk(RISING)
        self.says(desk, "onward", "ends 4")
        self.says(desk, "count 2", "6")
        desk.say("less 1")
        self.says(desk, "onward", "round")
        self.says(desk, "count 2", "10")
        self.says(desk, "nth 2 9", "3 3")
        self.says(desk, "needed 0", "needed 1 0")
        self.refused(desk, "needed 1", NoNumber)

    def test_without(self):
        text = "notes 4\nbar 1\noctave 12\nvoice 1 0\nvoice 0 5 turned\nabove 1 0\nabove 2 0\nleap 3"
        desk = sung(text, [0, 1])
        self.says(desk, "broken", "1 0 1 0")
        self.says(desk, "without 1", "ok")
        self.says(desk, "house", "notes 4\nbar 1\noctave 12\nvoice 0 5 turned\nabove 1 0\nleap 3")
        self.says(desk, "line", "0 1")
        self.says(desk, "broken", "none")
        self.says(desk, "next", "0 1 2")
        self.refused(desk, "without 2", NoNumber)
        self.refused(desk, "without 1", NoHouse)
        desk = sung(text, [0, 1])
        self.says(desk, "without 2", "ok")
        self.says(desk, "house", "notes 4\nbar 1\noctave 12\nvoice 1 0\nabove 1 0\nleap 3")
        self.says(desk, "broken", "1 0 1 0")

    def test_without_is_refused(self):
        for voice in (0, -1, 3, 4, SIXTY, "-" + SIXTY):
            self.refused(Desk(EVERY), f"without {voice}", NoNumber)
        for voice in (0, -1, 2, 3, 4, SIXTY):
            self.refused(Desk(RISING), f"without {voice}", NoNumber)
        self.refused(Desk(RISING), "without 1", NoHouse)

    def test_over(self):
        desk = sung(RISING, [0, 1, 3])
        self.says(desk, "over", "ok")
        self.says(desk, "house", "notes 4\nbar 2\noctave 12\nvoice 1 0\nabove 1 0\nagain 1")
        self.says(desk, "line", "3 2 0")
        self.says(desk, "broken", "none")
        self.says(desk, "next", "none")
        self.says(desk, "back", "ok")
        self.says(desk, "next", "0 1")
        self.says(desk, "over", "ok")
        self.says(desk, "house", RISING)
        self.says(desk, "line", "0 1")

    def test_over_of_turned_voices_and_ranges(self):
        desk = sung(EVERY, [3, 2])
        self.says(desk, "over", "ok")
        self.says(desk, "line", "0 1")
        self.says(desk, "house", EVERY.replace("voice 1 2", "voice 1 -2").replace("voice 2 6", "voice 2 0").replace(
            "range 0 5", "range -2 3").replace("above 2 1", "above 1 2"))

    def test_over_is_refused(self):
        text = "notes 4\nbar 1\noctave 12\nvoice 0 0\nvoice 1 -7 turned\nrange -9 9"
        desk = sung(text, [0, 3])
        self.refused(desk, "over", NoHouse)
        self.says(desk, "line", "0 3")
        self.says(desk, "house", text)
        self.says(desk, "without 2", "ok")
        self.says(desk, "over", "ok")
        self.says(desk, "line", "3 0")

    def test_over_of_sixty_notes(self):
        desk = sung(FREE, [0] * 60)
        self.says(desk, "over", "ok")
        self.says(desk, "line", " ".join(["2"] * 60))
        self.refused(desk, "sing 0", NoNote)


class NoRows(Case):
    def all_refused(self, rows):
        desk = sung(EVERY, [1, 1, 0])
        for row in rows:
            self.refused(desk, row, NoRow)

    def test_each_row_is_one(self):
        for row in ROWS:
            desk = sung(EVERY, [1])
            self.assertIs(type(desk.say(row)), str)

    def test_another_first_word(self):
        self.all_refused(["", "x", "hum 1", "sings 1", "son", "Line", "LINE", "lines", "0", "-", "none", "ok", "come", "breaks",
                          "first", "exchanged 1 2", "number 1", "nexts", "ends", "leap 1", "notes 4", "sing1", "count1"])
        self.all_refused([row.upper() for row in ROWS])
        self.all_refused([row.capitalize() for row in ROWS])

    def test_too_few_words(self):
        self.all_refused(["sing", "count", "nth", "nth 1", "needed", "less", "without"])

    def test_too_many_words(self):
        self.all_refused([row + " 0" for row in ROWS])
        self.all_refused([row + " x" for row in ROWS])
        self.all_refused(["line line", "back back", "nth 1 0 0 0", "sing 0 1 2"])

    def test_blanks_ahead_behind_and_doubled(self):
        self.all_refused([" " + row for row in ROWS])
        self.all_refused([row + " " for row in ROWS])
        self.all_refused([row.replace(" ", "  ") for row in ROWS if " " in row])
        self.all_refused(["nth  1 0", "nth 1  0", "sing ", "count ", "nth 1 ", "nth  0", " ", "  "])

    def test_other_signs_between(self):
        for sign in ("\t", "\n", "\r", "\u00a0", ",", "\x0b", "\u2003", ""):
            self.all_refused([row.replace(" ", sign) for row in ROWS if " " in row])
            if sign:
                self.all_refused([row + sign for row in ROWS])
                self.all_refused([sign + row for row in ROWS])

    def test_how_numbers_are_written(self):
        words = ("00", "01", "-0", "-00", "-01", "+1", "+0", "1.0", "1_0", "0x1", "--1", "-", "+", "a", "one", "'1'", "1,2", "1-",
                 "\u22121", "", "none", "1e1", "True") + OTHER_FIGURES + tuple("1" + figure for figure in OTHER_FIGURES)
        for row in ("sing ", "count ", "needed ", "less ", "without ", "nth 1 "):
            self.all_refused([row + word for word in words])
        self.all_refused(["nth " + word + " 0" for word in words])

    def test_more_than_sixty_figures(self):
        for many in (61, 62, 100, 1900, 4300, 4301, 6000):
            for figures in ("1" + "0" * (many - 1), "9" * many, "-" + "9" * many, "0" * many):
                for row in ("sing ", "count ", "needed ", "less ", "without ", "nth 1 "):
                    self.all_refused([row + figures])
                self.all_refused(["nth " + figures + " 0"])

    def test_sixty_figures(self):
        for figures in (SIXTY, "9" * 60, "-" + "9" * 60):
            desk = sung(EVERY, [1])
            self.refused(desk, "sing " + figures, NoNote)
            for row in ("count ", "needed ", "less ", "without ", "nth 1 "):
                self.refused(desk, row + figures, NoNumber)
            self.refused(desk, "nth " + figures + " 0", NoNumber)

    def test_what_is_no_text(self):
        self.all_refused([None, 0, 1, True, False, [], ["line"], ["sing", "0"], ("sing", 0), {}, b"line", 10 ** 59])

    def test_no_row_goes_ahead_of_all(self):
        broken = sung(WIDE, [0, 6])
        for row in ("onward 1", "count", "count 01", "count " + "9" * 61, "nth 1", "nth 1 00", "nth 00 1", "nth -1 x", "needed",
                    "needed 9 9", "less -0", "without +4", "over 1"):
            self.refused(broken, row, NoRow)
        only = sung("notes 7\nbar 1\noctave 1\nvoice 0 -12 turned", [])
        self.refused(only, "over", NoHouse)
        self.refused(only, "over ", NoRow)
        self.refused(only, "without 01", NoRow)

    def test_long_rows(self):
        self.all_refused(["x" * 2000, "sing " * 400, " " * 2000, "line" * 500])


class Model:
    """What a desk is to hold and to answer, by the functions and by the second reading."""

    def __init__(self, house):
        self.house, self.line = house, []

    def say(self, row):
        word, numbers = row.split(" ")[0], [int(part) for part in row.split(" ")[1:]]
        if word == "line":
            return " ".join(map(str, self.line))
        if word == "house":
            return written(self.house)
        if word == "next":
            return " ".join(map(str, may_follow(self.house, self.line))) or "none"
        if word == "broken":
            return "; ".join(" ".join(map(str, (beat, number, *voices)))
                             for beat, number, voices in breaks_read(self.house, self.line)) or "none"
        if word == "onward":
            onward(self.house, self.line)
            most = most_read(self.house, self.line)
            return "round" if most is None else f"ends {most}"
        if word == "count":
            return str(count(self.house, self.line, *numbers))
        if word == "nth":
            return " ".join(map(str, nth(self.house, self.line, *numbers)))
        if word == "needed":
            told = needed(self.house, *numbers)
            return "follows" if told[0] == "follows" else " ".join(map(str, ["needed"] + told[1]))
        return self.change(word, numbers)

    def change(self, word, numbers):
        if word == "sing":
            if len(self.line) == 60 or not 0 <= numbers[0] < self.house[0]:
                raise NoNote("told")
            self.line = self.line + numbers
        elif word == "back":
            if not self.line:
                raise NoNote("told")
            self.line = self.line[:-1]
        elif word == "less":
            self.house = less(self.house, *numbers)
        elif word == "without":
            self.house = without(self.house, *numbers)
        else:
            over = turned_over(self.house)
            self.line, self.house = line_over(self.house, self.line), over
        return "ok"


class Long(Case):
    def row(self, draw):
        word = draw.choice(["sing"] * 8 + ["back"] * 3 + ["line", "house", "next", "next", "broken", "onward", "count", "nth",
                                                          "needed", "less", "without", "over"])
        if word in ("sing", "needed", "less", "without"):
            return f"{word} {draw.randrange(-1, 4)}"
        if word == "count":
            return f"count {draw.choice([-1, 0, 1, 2, 5, 40, 41])}"
        if word == "nth":
            return f"nth {draw.choice([-1, 0, 1, 2, 5, 41])} {draw.choice([-1, 0, 0, 1, 2, 9])}"
        return word

    def told(self, thing, row):
        try:
            return thing.say(row)
        except CanonError as error:
            return (type(error), getattr(error, "first", None))

    def test_many_rows(self):
        draw = random.Random(53)
        kinds = {}
        for house in made_houses(54, 60, 4):
            desk, model = Desk(written(house)), Model(house)
            for number in range(60):
                row = self.row(draw)
                right = self.told(model, row)
                self.assertEqual(self.told(desk, row), right, (house, row))
                kinds[right[0] if isinstance(right, tuple) else row.split(" ")[0]] = True
            for row in ASKING:
                self.says(desk, row, model.say(row))
        for kind in (Broken, NoHouse, NoNote, NoNumber, TooMany) + tuple(row.split(" ")[0] for row in ROWS):
            self.assertIn(kind, kinds)

    def test_what_is_written_is_read_again(self):
        for house in made_houses(55, 30, 4):
            desk = sung(show_house(house), [0] * 5)
            self.assertEqual(read_house(desk.say("house")), house)
            self.assertEqual(read_line(house, desk.say("line")), [0] * 5)
            self.assertEqual(Desk(desk.say("house")).say("house"), desk.say("house"))

    def test_the_same_row_twice_is_answered_alike(self):
        desk = sung(EVERY, [1, 1])
        for row in ("line", "house", "next", "broken", "onward", "count 3", "nth 2 1", "needed 4"):
            self.says(desk, row, desk.say(row))

    def test_a_house_of_the_texts(self):
        self.assertEqual(show_house(house_of(3, 1, 12, [(0, 0, False)], [])), FREE)


if __name__ == "__main__":
    unittest.main()
