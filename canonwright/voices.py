"""Voices: where each one sounds, and with which pitch."""

from canonwright.houses import LATE, LEADER, SHIFT, TURNED, VOICES


def pitch(follower, note):
    if follower[TURNED]:
        return follower[SHIFT] - note
    return follower[SHIFT] + note


def singer(house, voice):
    if voice == 0:
        return LEADER
    return house[VOICES][voice - 1]


def sung(house, line, voice, beat):
    follower = singer(house, voice)
    at = beat - follower[LATE]
    if 0 <= at < len(line):
        return pitch(follower, line[at])
    return None


def span(octave, one, other):
    return abs(one - other) % octave


def chord(house, line, beat):
    return [sung(house, line, voice, beat) for voice in range(len(house[VOICES]) + 1)]


def score(house, line):
    return [chord(house, line, beat) for beat in range(len(line))]
