"""Judging: where a line breaks the rules of its house, and whether it is let by."""

from canonwright.errors import Broken
from canonwright.houses import RULES
from canonwright.rules import rule_of


def rules_of(house):
    return [rule_of(rule) for rule in house[RULES]]


def breaks_at(house, rules, line, beat):
    found = []
    for number, rule in enumerate(rules):
        for voices in rule.broken(house, line, beat):
            found.append((beat, number, voices))
    return found


def breaks(house, line):
    rules = rules_of(house)
    found = []
    # Beats and rules are walked rising, and each rule tells its voices sorted: so the whole is sorted.
    for beat in range(len(line)):
        found.extend(breaks_at(house, rules, line, beat))
    return found


def first_break(house, line):
    rules = rules_of(house)
    for beat in range(len(line)):
        found = breaks_at(house, rules, line, beat)
        if len(found) > 0:
            return found[0]
    return None


def is_let_by(house, line):
    return first_break(house, line) is None


def check_let_by(house, line):
    first = first_break(house, line)
    if first is not None:
        raise Broken(first)
