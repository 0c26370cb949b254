"""Counts: how many lists of notes can follow a line, each by its number."""

from canonwright.errors import NoNumber
from canonwright.houses import is_within
from canonwright.judging import check_let_by
from canonwright.stands import AFTER, NOTE, stand_of, steps_from

MOST_NOTES = 40


def check_many(n):
    if not is_within(n, 0, MOST_NOTES):
        raise NoNumber("a number of notes is from 0 to 40")


def through(steps, row):
    # How many lists go on through these steps, told how many go on from each stand.
    return sum([row[step[AFTER]] for step in steps])


def rows_of(steps, n):
    # For each k from 0 to n a dict: how many lists of k notes can follow each stand.
    row = {}
    for stand in steps:
        row[stand] = 1
    rows = [row]
    for k in range(n):
        row = {}
        for stand in steps:
            row[stand] = through(steps[stand], rows[k])
        rows.append(row)
    return rows


def count(house, line, n):
    check_let_by(house, line)
    check_many(n)
    stand = stand_of(house, line)
    return rows_of(steps_from(house, stand), n)[n][stand]


def nth(house, line, n, number):
    check_let_by(house, line)
    check_many(n)
    here = stand_of(house, line)
    steps = steps_from(house, here)
    rows = rows_of(steps, n)
    if not is_within(number, 0, rows[n][here] - 1):
        raise NoNumber("no list has this number")
    notes = []
    left = number
    for k in range(n - 1, -1, -1):
        place = 0
        while through(steps[here][:place + 1], rows[k]) <= left:
            place += 1
        left -= through(steps[here][:place], rows[k])
        notes.append(steps[here][place][NOTE])
        here = steps[here][place][AFTER]
    return notes


def number_of(house, line, more):
    check_let_by(house, line)
    here = stand_of(house, line)
    steps = steps_from(house, here)
    rows = rows_of(steps, len(more))
    number = 0
    for place, note in enumerate(more, start=1):
        taken = [step for step in steps[here] if step[NOTE] == note]
        if len(taken) == 0:
            raise NoNumber("behind the line the list makes none that is let by")
        number += through([step for step in steps[here] if step[NOTE] < note], rows[len(more) - place])
        here = taken[0][AFTER]
    return number
