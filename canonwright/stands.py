"""Stands: what of a line must be known to tell which notes may follow it."""

from canonwright.errors import TooMany
from canonwright.houses import BAR, LATE, NOTES, VOICES, is_within
from canonwright.judging import breaks_at, rules_of

# Where a stand's parts stand in its tuple.
TURN = 0
TAIL = 1

# Where the parts of a step from a stand stand in its tuple: the note, and the stand behind it.
NOTE = 0
AFTER = 1

# "again" and "back" look at most three notes back, however late the followers are.
LEAST_MEMORY = 3

MOST_STANDS = 150


def memory(house):
    # One more than the greatest late: "never" looks at the beat before, too.
    return max(LEAST_MEMORY, 1 + max([follower[LATE] for follower in house[VOICES]]))


def turn_of(house, many):
    most = memory(house)
    if many <= most:
        return many
    return most + (many - most) % house[BAR]


def stand_of(house, line):
    return (turn_of(house, len(line)), tuple(line[-memory(house):]))


def is_tail(house, turn, thing):
    if not isinstance(thing, tuple) or len(thing) != min(turn, memory(house)):
        return False
    return all([is_within(note, 0, house[NOTES] - 1) for note in thing])


def is_stand(house, thing):
    if not isinstance(thing, tuple) or len(thing) != 2:
        return False
    if not is_within(thing[TURN], 0, memory(house) + house[BAR] - 1):
        return False
    return is_tail(house, thing[TURN], thing[TAIL])


def line_to(stand):
    # No rule looks further back than the tail, so ahead of it any notes will do.
    return [0] * (stand[TURN] - len(stand[TAIL])) + list(stand[TAIL])


def nexts(house, stand):
    rules = rules_of(house)
    line = line_to(stand)
    return [note for note in range(house[NOTES]) if len(breaks_at(house, rules, line + [note], len(line))) == 0]


def behind(house, stand, note):
    return stand_of(house, line_to(stand) + [note])


def steps_of(house, stand):
    return [(note, behind(house, stand, note)) for note in nexts(house, stand)]


def steps_from(house, stand):
    # A dict of all stands that come from the stand, with the steps of each.
    steps = {}
    waiting = [stand]
    while len(waiting) > 0:
        here = waiting.pop()
        if here not in steps:
            if len(steps) == MOST_STANDS:
                raise TooMany("more than 150 stands come")
            steps[here] = steps_of(house, here)
            waiting.extend([step[AFTER] for step in steps[here]])
    return steps


def come(house, stand):
    return sorted(steps_from(house, stand))
