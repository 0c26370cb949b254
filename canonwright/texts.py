"""Texts: how houses and lines are written and read."""

from canonwright.errors import CanonError, NoText
from canonwright.houses import BAR, LATE, NOTES, OCTAVE, RULES, SHIFT, TURNED, VOICES, house_of, is_within

FIGURES = "0123456789"

MOST_FIGURES = 60

GREATEST_SPAN = 11

MOST_READ = 400


def show_row(parts):
    return " ".join([str(part) for part in parts])


def show_follower(follower):
    row = show_row(["voice", follower[LATE], follower[SHIFT]])
    return row + " turned" if follower[TURNED] else row


def show_spans(spans):
    if spans == 0:
        return "-"
    return ",".join([str(k) for k in range(spans.bit_length()) if (spans >> k) & 1 == 1])


def show_rule(rule):
    if rule[0] == "span":
        return show_row(["span", rule[1], show_spans(rule[2])])
    return show_row(rule)


def show_house(house):
    rows = [show_row(["notes", house[NOTES]]), show_row(["bar", house[BAR]]), show_row(["octave", house[OCTAVE]])]
    rows.extend([show_follower(follower) for follower in house[VOICES]])
    rows.extend([show_rule(rule) for rule in house[RULES]])
    return "\n".join(rows)


def show_line(line):
    return show_row(line)


def read_number(word):
    # None for what is no number as one is written. Numbers of more figures are too great wherever one is read.
    figures = word[1:] if word.startswith("-") else word
    if not 1 <= len(figures) <= MOST_FIGURES or not all([sign in FIGURES for sign in figures]):
        return None
    number = int(word)
    return number if str(number) == word else None


def read_numbers(words):
    return [read_number(word) for word in words]


def read_spans(word):
    if word == "-":
        return 0
    spans = 0
    for number in read_numbers(word.split(",")):
        if not is_within(number, 0, GREATEST_SPAN):
            return None
        spans = spans | (1 << number)
    return spans


def read_follower(words):
    return tuple(read_numbers(words[1:3]) + [words[3:] == ["turned"]])


def read_rule(words):
    if words[0] == "span":
        return tuple(["span"] + read_numbers(words[1:2]) + [read_spans(word) for word in words[2:]])
    if words[0] == "never":
        return tuple(["never"] + read_numbers(words[1:3]) + words[3:])
    return tuple(words[:1] + read_numbers(words[1:]))


def made_of(rows):
    frame = read_numbers([words[-1] for words in rows[:3]])
    voices = [read_follower(words) for words in rows[3:] if words[0] == "voice"]
    rules = [read_rule(words) for words in rows[3:] if words[0] != "voice"]
    try:
        return house_of(frame[0], frame[1], frame[2], voices, rules)
    except CanonError:
        raise NoText("the text is that of no house")


def read_house(text):
    if not isinstance(text, str):
        raise NoText("a house is read from a text")
    rows = [row.split(" ") for row in text.split("\n")]
    if len(rows) < 3:
        raise NoText("a house is written in more lines")
    house = made_of(rows)
    # The rows are read loosely; a house has just one text, so whatever is written otherwise is refused here.
    if show_house(house) != text:
        raise NoText("a house is written otherwise")
    return house


def read_line(house, text):
    if not isinstance(text, str):
        raise NoText("a line is read from a text")
    if text == "":
        return []
    line = read_numbers(text.split(" "))
    if len(line) > MOST_READ:
        raise NoText("a line has at most four hundred notes")
    if not all([is_within(note, 0, house[NOTES] - 1) for note in line]):
        raise NoText("a line is written as notes of the house, one blank between two")
    return line
