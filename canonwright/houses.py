"""Houses: what a follower and a rule are, and how a house is made of them."""

from canonwright.errors import NoHouse, NoRule, NoVoice

WAYS = ("like", "against", "aside", "any")

# Where a house's parts stand in its tuple.
NOTES = 0
BAR = 1
OCTAVE = 2
VOICES = 3
RULES = 4

# Where a follower's parts stand in its tuple.
LATE = 0
SHIFT = 1
TURNED = 2

LEADER = (0, 0, False)


def is_whole(thing):
    # Python counts True and False among its ints; the document doesn't.
    return isinstance(thing, int) and not isinstance(thing, bool)


def is_within(thing, low, high):
    return is_whole(thing) and low <= thing <= high


def are_within(things, many, low, high):
    return len(things) == many and all([is_within(thing, low, high) for thing in things])


def is_follower(thing):
    if not isinstance(thing, tuple) or len(thing) != 3:
        return False
    return is_within(thing[LATE], 0, 4) and is_within(thing[SHIFT], -12, 12) and isinstance(thing[TURNED], bool)


def is_way(thing):
    return isinstance(thing, str) and thing in WAYS


def are_spans(thing, octave):
    # The bits are counted, not compared with 1 << octave, so no octave is too great to be asked.
    return is_whole(thing) and thing >= 0 and thing.bit_length() <= octave


def is_rule(bar, octave, many, thing):
    if not isinstance(thing, tuple) or len(thing) == 0 or not isinstance(thing[0], str):
        return False
    word = thing[0]
    parts = thing[1:]
    if word == "span":
        return len(parts) == 2 and is_within(parts[0], 0, bar - 1) and are_spans(parts[1], octave)
    if word == "leap":
        return are_within(parts, 1, 0, 12)
    if word == "back":
        return are_within(parts, 2, 1, 12)
    if word == "again":
        return are_within(parts, 1, 1, 3)
    if word == "range":
        return are_within(parts, 2, -60, 60) and parts[0] <= parts[1]
    if word == "above":
        return are_within(parts, 2, 0, many) and parts[0] != parts[1]
    if word == "never":
        return len(parts) == 3 and are_within(parts[:2], 2, 0, octave - 1) and is_way(parts[2])
    return False


def check_frame(notes, bar, octave, voices, rules):
    if not is_within(notes, 1, 7):
        raise NoHouse("notes are from 1 to 7")
    if not is_within(bar, 1, 4):
        raise NoHouse("a bar has from 1 to 4 beats")
    if not is_within(octave, 1, 12):
        raise NoHouse("an octave is from 1 to 12")
    if not 1 <= len(voices) <= 3:
        raise NoHouse("followers are one to three")
    if len(rules) > 8:
        raise NoHouse("rules are at most eight")


def house_of(notes, bar, octave, voices, rules):
    check_frame(notes, bar, octave, voices, rules)
    for number, thing in enumerate(voices, start=1):
        if not is_follower(thing):
            raise NoVoice(number)
    for number, thing in enumerate(rules):
        if not is_rule(bar, octave, len(voices), thing):
            raise NoRule(number)
    return (notes, bar, octave, tuple(voices), tuple(rules))
