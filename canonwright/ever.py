"""For ever: whether a begun line can go on without an end, or how many notes can follow at most."""

from canonwright.houses import is_whole
from canonwright.judging import check_let_by, is_let_by
from canonwright.stands import AFTER, NOTE, is_stand, stand_of, steps_from, steps_of


def leads_only_to(steps, stand, numbers):
    return all([step[AFTER] in numbers for step in steps[stand]])


def newly_ended(steps, numbers):
    return [stand for stand in steps if stand not in numbers and leads_only_to(steps, stand, numbers)]


def numbers_of(steps):
    # For each stand how many notes can follow at most; where a line can go on for ever it has no number.
    numbers = {}
    number = 0
    ended = newly_ended(steps, numbers)
    while len(ended) > 0:
        for stand in ended:
            numbers[stand] = number
        number += 1
        ended = newly_ended(steps, numbers)
    return numbers


def way_round(steps, numbers, stand):
    # From a stand without a number a note leads to another such one; they are few, so one of them comes again.
    notes = []
    first_at = {}
    here = stand
    while here not in first_at:
        first_at[here] = len(notes)
        taken = [step for step in steps[here] if step[AFTER] not in numbers][0]
        notes.append(taken[NOTE])
        here = taken[AFTER]
    return ("round", notes[:first_at[here]], notes[first_at[here]:])


def way_down(steps, numbers, stand):
    notes = []
    here = stand
    while numbers[here] > 0:
        taken = [step for step in steps[here] if numbers[step[AFTER]] == numbers[here] - 1][0]
        notes.append(taken[NOTE])
        here = taken[AFTER]
    return notes


def onward(house, line):
    check_let_by(house, line)
    stand = stand_of(house, line)
    steps = steps_from(house, stand)
    numbers = numbers_of(steps)
    if stand not in numbers:
        return way_round(steps, numbers, stand)
    return ("ends", numbers[stand], way_down(steps, numbers, stand), sorted(numbers.items()))


def is_entry(house, thing):
    return isinstance(thing, tuple) and len(thing) == 2 and is_stand(house, thing[0]) and is_whole(thing[1])


def leads_down(house, numbers, stand):
    for step in steps_of(house, stand):
        if step[AFTER] not in numbers or numbers[step[AFTER]] >= numbers[stand]:
            return False
    return numbers[stand] >= 0


def shows_end(house, stand, paper):
    if not all([is_entry(house, thing) for thing in paper]):
        return False
    numbers = dict(paper)
    if len(numbers) != len(paper) or stand not in numbers:
        return False
    return all([leads_down(house, numbers, told) for told in numbers])


def shows_round(house, line, more, loop):
    begun = line + more
    whole = begun + loop
    return len(loop) > 0 and stand_of(house, begun) == stand_of(house, whole) and is_let_by(house, whole)
