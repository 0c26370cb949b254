"""The desk: a house and a line that rows of words ask about and change."""

from canonwright.changes import line_over, turned_over, without
from canonwright.compare import less, needed
from canonwright.counts import count, nth
from canonwright.errors import NoNote, NoRow
from canonwright.ever import onward
from canonwright.houses import NOTES, is_within
from canonwright.judging import breaks
from canonwright.stands import nexts, stand_of
from canonwright.texts import read_house, read_numbers, show_house, show_line, show_row

# How many numbers stand behind each first word.
NUMBERS = {
    "sing": 1, "back": 0, "line": 0, "house": 0, "next": 0, "broken": 0, "onward": 0,
    "count": 1, "nth": 2, "needed": 1, "less": 1, "without": 1, "over": 0,
}

CHANGING = ("sing", "back", "less", "without", "over")

MOST_SUNG = 60


def words_of(row):
    if not isinstance(row, str):
        raise NoRow("a row is a text")
    return row.split(" ")


def numbers_behind(words):
    if words[0] not in NUMBERS:
        raise NoRow("no row begins with this word")
    if len(words) - 1 != NUMBERS[words[0]]:
        raise NoRow("the row has too few words or too many")
    numbers = read_numbers(words[1:])
    if None in numbers:
        raise NoRow("a number of the row is written otherwise")
    return numbers


def or_none(text):
    return "none" if text == "" else text


def show_breaks(found):
    return "; ".join([show_row((beat, number) + voices) for beat, number, voices in found])


def show_onward(told):
    if told[0] == "round":
        return "round"
    return show_row(told[:2])


def show_needed(told):
    if told[0] == "follows":
        return "follows"
    return show_row(["needed"] + told[1])


def answer(house, line, word, numbers):
    if word == "line":
        return show_line(line)
    if word == "house":
        return show_house(house)
    if word == "next":
        return or_none(show_line(nexts(house, stand_of(house, line))))
    if word == "broken":
        return or_none(show_breaks(breaks(house, line)))
    if word == "onward":
        return show_onward(onward(house, line))
    if word == "count":
        return str(count(house, line, numbers[0]))
    if word == "nth":
        return show_line(nth(house, line, numbers[0], numbers[1]))
    return show_needed(needed(house, numbers[0]))


def sing(house, line, note):
    if not is_within(note, 0, house[NOTES] - 1):
        raise NoNote("the house hasn't this note")
    if len(line) == MOST_SUNG:
        raise NoNote("the line has sixty notes already")
    return line + [note]


def take_back(line):
    if len(line) == 0:
        raise NoNote("the line has no notes")
    return line[:-1]


def changed(house, line, word, numbers):
    # The house and the line behind the row.
    if word == "sing":
        return (house, sing(house, line, numbers[0]))
    if word == "back":
        return (house, take_back(line))
    if word == "less":
        return (less(house, numbers[0]), line)
    if word == "without":
        return (without(house, numbers[0]), line)
    return (turned_over(house), line_over(house, line))


class Desk:
    def __init__(self, text):
        self.house = read_house(text)
        self.line = []

    def say(self, row):
        words = words_of(row)
        numbers = numbers_behind(words)
        if words[0] not in CHANGING:
            return answer(self.house, self.line, words[0], numbers)
        now = changed(self.house, self.line, words[0], numbers)
        self.house = now[0]
        self.line = now[1]
        return "ok"
