"""A second reading of the document, voices by voices and line by line, to hold the program against."""

import itertools
import random

from canonwright.houses import WAYS, house_of


def sounds(house, line, voice, beat):
    late, shift, turned = (0, 0, False) if voice == 0 else house[3][voice - 1]
    if late > beat or beat - late >= len(line):
        return None
    note = line[beat - late]
    return shift - note if turned else shift + note


def direction(move):
    return "still" if move == 0 else "up" if move > 0 else "down"


def is_way_of(way, one, other):
    both = {direction(one), direction(other)}
    if way == "like":
        return both in ({"up"}, {"down"})
    if way == "against":
        return both == {"up", "down"}
    if way == "aside":
        return len(both) == 2 and "still" in both
    return True


def is_broken(house, line, beat, rule, voices):
    word, parts = rule[0], rule[1:]
    now = [sounds(house, line, voice, beat) for voice in voices]
    if None in now:
        return False
    if word == "span":
        return beat % house[1] == parts[0] and abs(now[0] - now[1]) % house[2] not in spans_in(parts[1])
    if word == "leap":
        return beat > 0 and abs(line[beat - 1] - line[beat]) > parts[0]
    if word == "back":
        if beat < 2 or abs(line[beat - 2] - line[beat - 1]) < parts[0]:
            return False
        homeward = -1 if line[beat - 1] > line[beat - 2] else 1
        return line[beat] not in [line[beat - 1] + homeward * step for step in range(1, parts[1] + 1)]
    if word == "again":
        return beat >= parts[0] and len(set(line[beat - parts[0]:beat + 1])) == 1
    if word == "range":
        return now[0] not in range(parts[0], parts[1] + 1)
    if word == "above":
        return voices == parts and now[0] < now[1]
    before = [sounds(house, line, voice, beat - 1) for voice in voices]
    if None in before:
        return False
    spans = (abs(before[0] - before[1]) % house[2], abs(now[0] - now[1]) % house[2])
    return spans == parts[:2] and is_way_of(parts[2], now[0] - before[0], now[1] - before[1])


def spans_in(spans):
    return [k for k, sign in enumerate(reversed(bin(spans)[2:])) if sign == "1"]


def voices_asked(house, word):
    numbers = range(len(house[3]) + 1)
    if word in ("leap", "back", "again"):
        return [()]
    if word == "range":
        return list(itertools.combinations(numbers, 1))
    if word == "above":
        return list(itertools.permutations(numbers, 2))
    return list(itertools.combinations(numbers, 2))


def breaks_read(house, line):
    return sorted((beat, number, voices) for beat in range(len(line)) for number, rule in enumerate(house[4])
                  for voices in voices_asked(house, rule[0]) if is_broken(house, line, beat, rule, voices))


def may_follow(house, line):
    """The notes with which, put behind the line, no rule is broken at the last beat."""
    def breaks_at_its_beat(longer):
        return any(is_broken(house, longer, len(line), rule, voices)
                   for rule in house[4] for voices in voices_asked(house, rule[0]))
    return [note for note in range(house[0]) if not breaks_at_its_beat(line + [note])]


def memory_read(house):
    return sorted([3] + [late + 1 for late, shift, turned in house[3]])[-1]


def stand_read(house, line):
    turn = len(line)
    while turn >= memory_read(house) + house[1]:
        turn -= house[1]
    return (turn, tuple(line[max(0, len(line) - memory_read(house)):]))


def all_lists(house, many):
    """All lists of so many notes, as lists compare."""
    return [list(notes) for notes in itertools.product(range(house[0]), repeat=many)]


def all_stands(house):
    found = []
    for turn in range(memory_read(house) + house[1]):
        found.extend((turn, tuple(tail)) for tail in all_lists(house, min(turn, memory_read(house))))
    return found


def lines_to(house, stand):
    """Lines with this stand, let by or not: with other notes ahead of the tail, and some bars longer."""
    turn, tail = stand
    if turn < memory_read(house):
        return [list(tail)]
    found = []
    for bars in range(3):
        many = turn - len(tail) + bars * house[1]
        for note in range(house[0]):
            found.append([(note + place) % house[0] for place in range(many)] + list(tail))
    return found


def come_read(house, line):
    """The stands that come from that of the line, each with a line that comes to it and the notes that may follow."""
    found = {}
    waiting = [line]
    while waiting:
        here = waiting.pop(0)
        if stand_read(house, here) not in found:
            found[stand_read(house, here)] = (here, may_follow(house, here))
            waiting.extend(here + [note] for note in may_follow(house, here))
    return found


def most_read(house, line):
    """How many notes can follow the line at most, or None where there is no end."""
    found = come_read(house, line)
    here = {stand_read(house, line)}
    for many in range(len(found)):
        here = {stand_read(house, found[stand][0] + [note]) for stand in here for note in found[stand][1]}
        if not here:
            return many
    # With as many steps as there are stands, one of them has come twice.
    return None


def made_rule(draw, bar, octave, many):
    word = draw.choice(["span", "leap", "back", "again", "range", "above", "never"])
    if word == "span":
        return (word, draw.randrange(bar), draw.randrange(1 << octave) | draw.randrange(1 << octave))
    if word == "leap":
        return (word, draw.randrange(0, 4))
    if word == "back":
        return (word, draw.randrange(1, 4), draw.randrange(1, 4))
    if word == "again":
        return (word, draw.randrange(1, 4))
    if word == "range":
        return (word, draw.randrange(-12, 1), draw.randrange(1, 14))
    if word == "above":
        return (word, *draw.sample(range(many + 1), 2))
    return (word, draw.randrange(octave), draw.randrange(octave), draw.choice(WAYS))


def made_houses(seed, count, most_notes):
    """So many houses of all kinds, the same ones at each call."""
    draw = random.Random(seed)
    found = []
    for number in range(count):
        bar, octave, many = draw.randrange(1, 5), draw.randrange(1, 13), draw.randrange(1, 4)
        voices = [(draw.randrange(5), draw.randrange(-12, 13), draw.random() < 0.5) for voice in range(many)]
        rules = [made_rule(draw, bar, octave, many) for rule in range(draw.randrange(0, 6))]
        found.append(house_of(draw.randrange(1, most_notes + 1), bar, octave, voices, rules))
    return found
