"""Rules: where each of the seven is broken, and by which voices."""

from canonwright.houses import BAR, OCTAVE
from canonwright.voices import chord, span, sung

# A break of the line's own is told by no voices.
BY_THE_LINE = ()


def sounding_pairs(pitches):
    found = []
    for v in range(len(pitches)):
        for w in range(v + 1, len(pitches)):
            if pitches[v] is not None and pitches[w] is not None:
                found.append((v, w))
    return found


def move_so(way, one, other):
    if way == "like":
        return one * other > 0
    if way == "against":
        return one * other < 0
    if way == "aside":
        return (one == 0) != (other == 0)
    return True


class Rule:
    pass


class Span(Rule):
    def __init__(self, beat, spans):
        self.beat = beat
        self.spans = spans

    def broken(self, house, line, beat):
        if beat % house[BAR] != self.beat:
            return []
        octave = house[OCTAVE]
        now = chord(house, line, beat)
        return [(v, w) for v, w in sounding_pairs(now) if self.forbids(span(octave, now[v], now[w]))]

    def forbids(self, found):
        return (self.spans >> found) & 1 == 0

    def told(self):
        return ("span", self.beat, self.spans)


class Leap(Rule):
    def __init__(self, most):
        self.most = most

    def broken(self, house, line, beat):
        if beat > 0 and abs(line[beat] - line[beat - 1]) > self.most:
            return [BY_THE_LINE]
        return []

    def told(self):
        return ("leap", self.most)


class Back(Rule):
    def __init__(self, leap, most):
        self.leap = leap
        self.most = most

    def broken(self, house, line, beat):
        if beat < 2:
            return []
        away = line[beat - 1] - line[beat - 2]
        home = line[beat] - line[beat - 1]
        if abs(away) < self.leap:
            return []
        if away * home < 0 and abs(home) <= self.most:
            return []
        return [BY_THE_LINE]

    def told(self):
        return ("back", self.leap, self.most)


class Again(Rule):
    def __init__(self, most):
        self.most = most

    def broken(self, house, line, beat):
        if beat < self.most:
            return []
        if all([note == line[beat] for note in line[beat - self.most:beat]]):
            return [BY_THE_LINE]
        return []

    def told(self):
        return ("again", self.most)


class Range(Rule):
    def __init__(self, low, high):
        self.low = low
        self.high = high

    def broken(self, house, line, beat):
        return [(v,) for v, found in enumerate(chord(house, line, beat)) if self.forbids(found)]

    def forbids(self, found):
        return found is not None and not self.low <= found <= self.high

    def told(self):
        return ("range", self.low, self.high)


class Above(Rule):
    def __init__(self, one, other):
        self.one = one
        self.other = other

    def broken(self, house, line, beat):
        one = sung(house, line, self.one, beat)
        other = sung(house, line, self.other, beat)
        if one is None or other is None or one >= other:
            return []
        return [(self.one, self.other)]

    def told(self):
        return ("above", self.one, self.other)


class Never(Rule):
    def __init__(self, one, other, way):
        self.one = one
        self.other = other
        self.way = way

    def broken(self, house, line, beat):
        octave = house[OCTAVE]
        before = chord(house, line, beat - 1)
        now = chord(house, line, beat)
        found = []
        # Whoever sounds at a beat still sounds at the line's next one, so the pairs before are enough.
        for v, w in sounding_pairs(before):
            if span(octave, before[v], before[w]) == self.one and span(octave, now[v], now[w]) == self.other:
                if move_so(self.way, now[v] - before[v], now[w] - before[w]):
                    found.append((v, w))
        return found

    def told(self):
        return ("never", self.one, self.other, self.way)


def rule_of(rule):
    word = rule[0]
    if word == "span":
        return Span(rule[1], rule[2])
    if word == "leap":
        return Leap(rule[1])
    if word == "back":
        return Back(rule[1], rule[2])
    if word == "again":
        return Again(rule[1])
    if word == "range":
        return Range(rule[1], rule[2])
    if word == "above":
        return Above(rule[1], rule[2])
    return Never(rule[1], rule[2], rule[3])
