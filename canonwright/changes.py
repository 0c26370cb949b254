"""Changes: a house with its followers exchanged, without one of them, or turned upside down."""

from canonwright.errors import NoHouse, NoNumber
from canonwright.houses import BAR, LATE, NOTES, OCTAVE, RULES, SHIFT, TURNED, VOICES, is_within

MOST_SHIFT = 12

FURTHEST = 60


def with_parts(house, voices, rules):
    return (house[NOTES], house[BAR], house[OCTAVE], tuple(voices), tuple(rules))


def renamed(rule, numbers):
    # Only "above" names voices; the dict tells the new number of each.
    if rule[0] != "above":
        return rule
    return ("above", numbers[rule[1]], numbers[rule[2]])


def exchanged(house, order):
    numbers = {0: 0}
    for place, voice in enumerate(order, start=1):
        numbers[voice] = place
    voices = [house[VOICES][voice - 1] for voice in order]
    return with_parts(house, voices, [renamed(rule, numbers) for rule in house[RULES]])


def names(rule, voice):
    return rule[0] == "above" and voice in rule[1:]


def without(house, voice):
    many = len(house[VOICES])
    if not is_within(voice, 1, many):
        raise NoNumber("no follower has this number")
    if many == 1:
        raise NoHouse("the only follower can't be left out")
    left = [number for number in range(many + 1) if number != voice]
    numbers = {}
    for place, number in enumerate(left):
        numbers[number] = place
    voices = [house[VOICES][number - 1] for number in left if number > 0]
    return with_parts(house, voices, [renamed(rule, numbers) for rule in house[RULES] if not names(rule, voice)])


def follower_over(house, follower):
    shift = -follower[SHIFT]
    if follower[TURNED]:
        shift += 2 * (house[NOTES] - 1)
    if not is_within(shift, -MOST_SHIFT, MOST_SHIFT):
        raise NoHouse("a follower's new shift is beyond -12 to 12")
    return (follower[LATE], shift, follower[TURNED])


def end_over(house, end):
    return max(-FURTHEST, min(FURTHEST, house[NOTES] - 1 - end))


def rule_over(house, rule):
    if rule[0] == "range":
        return ("range", end_over(house, rule[2]), end_over(house, rule[1]))
    if rule[0] == "above":
        return ("above", rule[2], rule[1])
    return rule


def turned_over(house):
    voices = [follower_over(house, follower) for follower in house[VOICES]]
    return with_parts(house, voices, [rule_over(house, rule) for rule in house[RULES]])


def line_over(house, line):
    return [house[NOTES] - 1 - note for note in line]
