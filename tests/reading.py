"""A second reading of the document, voices by voices and line by line, to hold the program against."""

import itertools
import random
import re

from canonwright.houses import WAYS, house_of

NUMBER = "(?:0|-?[1-9][0-9]*)"
ROWS = (f"notes {NUMBER}", f"bar {NUMBER}", f"octave {NUMBER}", f"voice {NUMBER} {NUMBER}(?: turned)?",
        f"span {NUMBER} (?:-|{NUMBER}(?:,{NUMBER})*)", f"(?:leap|again) {NUMBER}",
        f"(?:back|range|above) {NUMBER} {NUMBER}", f"never {NUMBER} {NUMBER} (?:like|against|aside|any)")
KINDS = ("notes", "bar", "octave", "voice")


def sounds(house, line, voice, beat):
    late, shift, turned = (0, 0, False) if voice == 0 else house[3][voice - 1]
    if late > beat or beat - late >= len(line):
        return None
    note = line[beat - late]
    return shift - note if turned else shift + note


def direction(move):
    return "still" if move == 0 else "up" if move > 0 else "down"


def is_way_of(way, one, other):
    both = {direction(one), direction(other)}
    if way == "like":
        return both in ({"up"}, {"down"})
    if way == "against":
        return both == {"up", "down"}
    if way == "aside":
        return len(both) == 2 and "still" in both
    return True


def is_broken(house, line, beat, rule, voices):
    word, parts = rule[0], rule[1:]
    now = [sounds(house, line, voice, beat) for voice in voices]
    if None in now:
        return False
    if word == "span":
        return beat % house[1] == parts[0] and abs(now[0] - now[1]) % house[2] not in spans_in(parts[1])
    if word == "leap":
        return beat > 0 and abs(line[beat - 1] - line[beat]) > parts[0]
    if word == "back":
        if beat < 2 or abs(line[beat - 2] - line[beat - 1]) < parts[0]:
            return False
        homeward = -1 if line[beat - 1] > line[beat - 2] else 1
        return line[beat] not in [line[beat - 1] + homeward * step for step in range(1, parts[1] + 1)]
    if word == "again":
        return beat >= parts[0] and len(set(line[beat - parts[0]:beat + 1])) == 1
    if word == "range":
        return now[0] not in range(parts[0], parts[1] + 1)
    if word == "above":
        return voices == parts and now[0] < now[1]
    before = [sounds(house, line, voice, beat - 1) for voice in voices]
    if None in before:
        return False
    spans = (abs(before[0] - before[1]) % house[2], abs(now[0] - now[1]) % house[2])
    return spans == parts[:2] and is_way_of(parts[2], now[0] - before[0], now[1] - before[1])


def spans_in(spans):
    return [k for k, sign in enumerate(reversed(bin(spans)[2:])) if sign == "1"]


def voices_asked(house, word):
    numbers = range(len(house[3]) + 1)
    if word in ("leap", "back", "again"):
        return [()]
    if word == "range":
        return list(itertools.combinations(numbers, 1))
    if word == "above":
        return list(itertools.permutations(numbers, 2))
    return list(itertools.combinations(numbers, 2))


def breaks_read(house, line):
    return sorted((beat, number, voices) for beat in range(len(line)) for number, rule in enumerate(house[4])
                  for voices in voices_asked(house, rule[0]) if is_broken(house, line, beat, rule, voices))


def may_follow(house, line):
    """The notes with which, put behind the line, no rule is broken at the last beat."""
    def breaks_at_its_beat(longer):
        return any(is_broken(house, longer, len(line), rule, voices)
                   for rule in house[4] for voices in voices_asked(house, rule[0]))
    return [note for note in range(house[0]) if not breaks_at_its_beat(line + [note])]


def memory_read(house):
    return sorted([3] + [late + 1 for late, shift, turned in house[3]])[-1]


def stand_read(house, line):
    turn = len(line)
    while turn >= memory_read(house) + house[1]:
        turn -= house[1]
    return (turn, tuple(line[max(0, len(line) - memory_read(house)):]))


def all_lists(house, many):
    """All lists of so many notes, as lists compare."""
    return [list(notes) for notes in itertools.product(range(house[0]), repeat=many)]


def all_stands(house):
    found = []
    for turn in range(memory_read(house) + house[1]):
        found.extend((turn, tuple(tail)) for tail in all_lists(house, min(turn, memory_read(house))))
    return found


def lines_to(house, stand):
    """Lines with this stand, let by or not: with other notes ahead of the tail, and some bars longer."""
    turn, tail = stand
    if turn < memory_read(house):
        return [list(tail)]
    found = []
    for bars in range(3):
        many = turn - len(tail) + bars * house[1]
        for note in range(house[0]):
            found.append([(note + place) % house[0] for place in range(many)] + list(tail))
    return found


def come_read(house, line):
    """The stands that come from that of the line, each with a line that comes to it and the notes that may follow."""
    found = {}
    waiting = [line]
    while waiting:
        here = waiting.pop(0)
        if stand_read(house, here) not in found:
            found[stand_read(house, here)] = (here, may_follow(house, here))
            waiting.extend(here + [note] for note in may_follow(house, here))
    return found


def most_read(house, line):
    """How many notes can follow the line at most, or None where there is no end."""
    found = come_read(house, line)
    here = {stand_read(house, line)}
    for many in range(len(found)):
        here = {stand_read(house, found[stand][0] + [note]) for stand in here for note in found[stand][1]}
        if not here:
            return many
    # With as many steps as there are stands, one of them has come twice.
    return None


def pairs_read(one, other):
    """The pairs of lines that both houses let by, each with its first line; of too many the first 152."""
    found = {}
    waiting = [[]]
    while waiting and len(found) < 152:
        line = waiting.pop(0)
        pair = (stand_read(one, line), stand_read(other, line))
        if pair not in found:
            found[pair] = line
            waiting.extend(line + [note] for note in may_follow(one, line) if note in may_follow(other, line))
    return found


def apart_read(one, other, most):
    """The first line of at most so many notes that just one of both lets by, and which; or None."""
    for many in range(most + 1):
        for line in all_lists(one, many):
            by = [breaks_read(house, line) == [] for house in (one, other)]
            if by[0] != by[1]:
                return (line, 1 if by[0] else 2)
    return None


def compared_read(one, other):
    """What is to be told of two houses with at most 150 pairs: each first line of a pair, and one note behind it."""
    found = pairs_read(one, other)
    apart = []
    for line in found.values():
        for note in range(one[0]):
            by = [note in may_follow(house, line) for house in (one, other)]
            if by[0] != by[1]:
                apart.append((len(line), line + [note], 1 if by[0] else 2))
    return ("apart", *min(apart)[1:]) if apart else ("alike", sorted(found))


def written(house):
    """The text of a house, row by row."""
    text = "notes " + str(house[0]) + "\nbar " + str(house[1]) + "\noctave " + str(house[2])
    for late, shift, turned in house[3]:
        text += "\nvoice " + str(late) + " " + str(shift) + (" turned" if turned else "")
    for rule in house[4]:
        parts = list(rule)
        if rule[0] == "span":
            parts[2] = ",".join(str(k) for k in spans_in(rule[2])) or "-"
        text += "\n" + " ".join(str(part) for part in parts)
    return text


def is_row_within(words, bar, octave, many):
    """Whether the numbers of a row that is written as it must be keep to what the document bounds."""
    word, numbers = words[0], [int(part) for part in words[1:] if re.fullmatch(NUMBER, part)]
    if word == "voice":
        return 0 <= numbers[0] <= 4 and -12 <= numbers[1] <= 12
    if word == "span":
        spans = [] if words[2] == "-" else [int(part) for part in words[2].split(",")]
        return 0 <= numbers[0] < bar and spans == sorted(set(spans)) and all(0 <= k < octave for k in spans)
    if word == "leap":
        return 0 <= numbers[0] <= 12
    if word == "back":
        return all(1 <= number <= 12 for number in numbers)
    if word == "again":
        return 1 <= numbers[0] <= 3
    if word == "range":
        return -60 <= numbers[0] <= numbers[1] <= 60
    if word == "above":
        return all(0 <= number <= many for number in numbers) and numbers[0] != numbers[1]
    return all(0 <= number < octave for number in numbers)


def is_house_text(text):
    rows = text.split("\n")
    if not all(any(re.fullmatch(shape, row) for shape in ROWS) for row in rows) or len(rows) < 4:
        return False
    words = [row.split(" ") for row in rows]
    kinds = [KINDS.index(row[0]) if row[0] in KINDS else 4 for row in words]
    if kinds != sorted(kinds) or kinds[:3] != [0, 1, 2] or 0 in kinds[1:] or 1 in kinds[2:] or 2 in kinds[3:]:
        return False
    notes, bar, octave = [int(row[1]) for row in words[:3]]
    if not (1 <= notes <= 7 and 1 <= bar <= 4 and 1 <= octave <= 12):
        return False
    many = kinds.count(3)
    return 1 <= many <= 3 and kinds.count(4) <= 8 and all(is_row_within(row, bar, octave, many) for row in words[3:])


def made_rule(draw, bar, octave, many):
    word = draw.choice(["span", "leap", "back", "again", "range", "above", "never"])
    if word == "span":
        return (word, draw.randrange(bar), draw.randrange(1 << octave) | draw.randrange(1 << octave))
    if word == "leap":
        return (word, draw.randrange(0, 4))
    if word == "back":
        return (word, draw.randrange(1, 4), draw.randrange(1, 4))
    if word == "again":
        return (word, draw.randrange(1, 4))
    if word == "range":
        return (word, draw.randrange(-12, 1), draw.randrange(1, 14))
    if word == "above":
        return (word, *draw.sample(range(many + 1), 2))
    return (word, draw.randrange(octave), draw.randrange(octave), draw.choice(WAYS))


def made_houses(seed, count, most_notes):
    """So many houses of all kinds, the same ones at each call."""
    draw = random.Random(seed)
    found = []
    for number in range(count):
        bar, octave, many = draw.randrange(1, 5), draw.randrange(1, 13), draw.randrange(1, 4)
        voices = [(draw.randrange(5), draw.randrange(-12, 13), draw.random() < 0.5) for voice in range(many)]
        rules = [made_rule(draw, bar, octave, many) for rule in range(draw.randrange(0, 6))]
        found.append(house_of(draw.randrange(1, most_notes + 1), bar, octave, voices, rules))
    return found
