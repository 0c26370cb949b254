"""Two houses: whether they let the same lines by, and whether a rule of a house is needed."""

from canonwright.errors import NoNumber, TooMany, Unlike
from canonwright.houses import BAR, NOTES, OCTAVE, RULES, VOICES, is_within
from canonwright.stands import behind, is_stand, nexts

START = ((0, ()), (0, ()))

MOST_PAIRS = 150


def pair_behind(one, other, pair, note):
    return (behind(one, pair[0], note), behind(other, pair[1], note))


def notes_of_both(one, other, pair):
    allowed = nexts(other, pair[1])
    return [note for note in nexts(one, pair[0]) if note in allowed]


def lines_of_pairs(one, other):
    # A dict of all pairs of lines that both let by, each with its first line. Fewer notes go first, then as lists
    # compare: so the lines are walked in this order, and the one that comes first to a pair is its first.
    lines = {START: []}
    waiting = [START]
    while len(waiting) > 0:
        found = []
        for pair in waiting:
            for note in notes_of_both(one, other, pair):
                after = pair_behind(one, other, pair, note)
                if after not in lines:
                    lines[after] = lines[pair] + [note]
                    found.append(after)
        if len(lines) > MOST_PAIRS:
            raise TooMany("more than 150 pairs belong to lines that both houses let by")
        waiting = found
    return lines


def first_apart(one, other, pair):
    # The first note that may follow just one of the pair's stands, with the number of that one; or None.
    first = nexts(one, pair[0])
    second = nexts(other, pair[1])
    for note in range(one[NOTES]):
        if (note in first) != (note in second):
            return (note, 1 if note in first else 2)
    return None


def compared(one, other):
    if one[NOTES] != other[NOTES]:
        raise Unlike("the houses have not as many notes")
    lines = lines_of_pairs(one, other)
    for pair in lines:
        apart = first_apart(one, other, pair)
        if apart is not None:
            return ("apart", lines[pair] + [apart[0]], apart[1])
    return ("alike", sorted(lines))


def is_pair(one, other, thing):
    if not isinstance(thing, tuple) or len(thing) != 2:
        return False
    return is_stand(one, thing[0]) and is_stand(other, thing[1])


def leads_into(one, other, pair, listed):
    if first_apart(one, other, pair) is not None:
        return False
    return all([pair_behind(one, other, pair, note) in listed for note in nexts(one, pair[0])])


def shows_alike(one, other, pairs):
    if one[NOTES] != other[NOTES] or not all([is_pair(one, other, thing) for thing in pairs]):
        return False
    listed = {}
    for pair in pairs:
        listed[pair] = True
    return START in listed and all([leads_into(one, other, pair, listed) for pair in listed])


def less(house, k):
    rules = house[RULES]
    if not is_within(k, 0, len(rules) - 1):
        raise NoNumber("no rule has this number")
    return (house[NOTES], house[BAR], house[OCTAVE], house[VOICES], rules[:k] + rules[k + 1:])


def needed(house, k):
    told = compared(less(house, k), house)
    if told[0] == "apart":
        return ("needed", told[1])
    return ("follows", told[1])
