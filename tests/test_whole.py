"""What is promised over the whole program: the interface, the answers held together, and nothing handed in changed."""

import copy
import importlib
import inspect
import unittest

from canonwright.changes import exchanged, line_over, turned_over, without
from canonwright.compare import compared, less, needed, shows_alike
from canonwright.counts import count, nth, number_of
from canonwright.desk import Desk
from canonwright.errors import CanonError, NoHouse, NoNumber, TooMany
from canonwright.ever import onward, shows_end, shows_round
from canonwright.houses import house_of, is_follower, is_rule
from canonwright.judging import breaks, first_break, is_let_by
from canonwright.rules import rule_of
from canonwright.stands import behind, come, is_stand, memory, nexts, stand_of
from canonwright.texts import read_house, read_line, show_house, show_line
from canonwright.voices import pitch, score, span, sung
from tests.reading import all_lists, breaks_read, made_houses, may_follow

INTERFACE = {
    "houses": {"is_follower": "thing", "is_rule": "bar octave many thing", "house_of": "notes bar octave voices rules"},
    "voices": {"pitch": "follower note", "sung": "house line voice beat", "span": "octave one other", "score": "house line"},
    "rules": {"Span": "beat spans", "Leap": "most", "Back": "leap most", "Again": "most", "Range": "low high",
              "Above": "one other", "Never": "one other way", "rule_of": "rule"},
    "judging": {"breaks": "house line", "first_break": "house line", "is_let_by": "house line"},
    "stands": {"memory": "house", "stand_of": "house line", "is_stand": "house thing", "nexts": "house stand",
               "behind": "house stand note", "come": "house stand"},
    "ever": {"onward": "house line", "shows_end": "house stand paper", "shows_round": "house line more loop"},
    "counts": {"count": "house line n", "nth": "house line n number", "number_of": "house line more"},
    "compare": {"compared": "one other", "shows_alike": "one other pairs", "less": "house k", "needed": "house k"},
    "changes": {"exchanged": "house order", "without": "house voice", "turned_over": "house", "line_over": "house line"},
    "texts": {"show_house": "house", "show_line": "line", "read_house": "text", "read_line": "house text"},
    "desk": {"Desk": "text"},
}
ERRORS = ("NoHouse", "NoVoice", "NoRule", "Broken", "TooMany", "NoNumber", "Unlike", "NoText", "NoRow", "NoNote")


def small_houses(seed, count):
    """Houses from whose first stand at most 150 come."""
    found = []
    for house in made_houses(seed, count, 3):
        try:
            come(house, (0, ()))
        except TooMany:
            continue
        found.append(house)
    return found


def lines_let_by(house, most):
    return [line for many in range(most + 1) for line in all_lists(house, many) if breaks_read(house, line) == []]


class Interface(unittest.TestCase):
    def test_names_and_arguments(self):
        for module, names in INTERFACE.items():
            found = importlib.import_module("canonwright." + module)
            for name, arguments in names.items():
                thing = getattr(found, name)
                self.assertEqual(list(inspect.signature(thing).parameters), arguments.split(" "), (module, name))

    def test_methods(self):
        rules = importlib.import_module("canonwright.rules")
        for name in ("Span", "Leap", "Back", "Again", "Range", "Above", "Never"):
            thing = getattr(rules, name)
            self.assertEqual(thing.__bases__, (rules.Rule,))
            self.assertEqual(list(inspect.signature(thing.broken).parameters), ["self", "house", "line", "beat"])
            self.assertEqual(list(inspect.signature(thing.told).parameters), ["self"])
        self.assertEqual(list(inspect.signature(Desk.say).parameters), ["self", "row"])

    def test_errors(self):
        errors = importlib.import_module("canonwright.errors")
        self.assertEqual(errors.CanonError.__bases__, (ValueError,))
        for name in ERRORS:
            self.assertEqual(getattr(errors, name).__bases__, (errors.CanonError,))

    def test_by_name(self):
        house = house_of(notes=3, bar=2, octave=12, voices=[(1, 0, False), (0, 2, True)], rules=[("leap", 1)])
        self.assertEqual(compared(one=house, other=house)[0], "alike")
        self.assertIs(shows_alike(one=house, other=house, pairs=[]), False)
        self.assertEqual(less(house=house, k=0)[4], ())
        self.assertEqual(needed(house=house, k=0), ("needed", [0, 2]))
        self.assertEqual(exchanged(house=house, order=[2, 1])[3], ((0, 2, True), (1, 0, False)))
        self.assertEqual(without(house=house, voice=1)[3], ((0, 2, True),))
        self.assertEqual(turned_over(house=house)[3], house[3])
        self.assertEqual(line_over(house=house, line=[0]), [2])
        self.assertEqual(read_house(text=show_house(house=house)), house)
        self.assertEqual(read_line(house=house, text=show_line(line=[1, 2])), [1, 2])
        self.assertEqual(Desk(text=show_house(house)).say(row="line"), "")


class TheWhole(unittest.TestCase):
    def test_let_by_just_where_no_rule_is_broken(self):
        for house in made_houses(61, 40, 3):
            rules = [rule_of(rule) for rule in house[4]]
            for line in all_lists(house, 4):
                found = [(beat, number, voices) for beat in range(4) for number, rule in enumerate(rules)
                         for voices in rule.broken(house, line, beat)]
                self.assertEqual(is_let_by(house, line), found == [])
                self.assertEqual(breaks(house, line), sorted(found))
                self.assertEqual(first_break(house, line), min(found) if found else None)

    def test_what_may_follow_hangs_on_the_stand_alone(self):
        for house in made_houses(62, 30, 2):
            told = {}
            for many in range(10):
                for line in all_lists(house, many)[::3]:
                    stand = stand_of(house, line)
                    told.setdefault(stand, []).append(may_follow(house, line))
                    self.assertTrue(is_stand(house, stand))
            for stand, notes in told.items():
                self.assertEqual(notes, [nexts(house, stand)] * len(notes))

    def test_for_ever_or_not(self):
        words = {}
        for house in small_houses(63, 60):
            for line in lines_let_by(house, 2):
                told = onward(house, line)
                words[told[0]] = True
                if told[0] == "round":
                    self.assertIs(shows_round(house, line, told[1], told[2]), True)
                    self.assertEqual(breaks_read(house, line + told[1] + told[2] * 4), [])
                    self.assertGreater(count(house, line, 40), 0)
                else:
                    self.assertIs(shows_end(house, stand_of(house, line), told[3]), True)
                    self.assertEqual((len(told[2]), breaks_read(house, line + told[2])), (told[1], []))
                    self.assertEqual(count(house, line, told[1] + 1), 0)
        self.assertEqual(sorted(words), ["ends", "round"])

    def test_each_line_has_its_number_and_each_number_its_line(self):
        for house in small_houses(64, 60):
            lists = [line for line in all_lists(house, 4) if breaks_read(house, line) == []]
            self.assertEqual(count(house, [], 4), len(lists))
            self.assertEqual([nth(house, [], 4, number) for number in range(len(lists))], lists)
            self.assertEqual([number_of(house, [], line) for line in lists], list(range(len(lists))))

    def test_alike_just_where_the_same_lines_are_let_by(self):
        houses = [house for house in small_houses(65, 60) if house[0] == 2]
        for one in houses:
            for other in houses:
                same = lines_let_by(one, 4) == lines_let_by(other, 4)
                try:
                    told = compared(one, other)
                except TooMany:
                    continue
                if told[0] == "alike":
                    self.assertTrue(same)
                    self.assertIs(shows_alike(one, other, told[1]), True)
                    self.assertEqual([count(one, [], n) for n in (5, 12)], [count(other, [], n) for n in (5, 12)])
                else:
                    self.assertEqual(same, len(told[1]) > 4)
                    self.assertEqual((is_let_by(one, told[1]), is_let_by(other, told[1])), (told[2] == 1, told[2] == 2))

    def test_a_needed_rule_is_broken_alone(self):
        words = {}
        for house in small_houses(66, 80):
            for k in range(len(house[4])):
                told = needed(house, k)
                words[told[0]] = True
                if told[0] == "needed":
                    self.assertEqual({number for beat, number, voices in breaks(house, told[1])}, {k})
                    self.assertIs(is_let_by(less(house, k), told[1]), True)
                else:
                    self.assertEqual(count(less(house, k), [], 9), count(house, [], 9))
        self.assertEqual(sorted(words), ["follows", "needed"])

    def test_changes_let_by_what_they_must(self):
        for house in small_houses(67, 80):
            many = len(house[3])
            self.assertEqual(count(exchanged(house, list(range(many, 0, -1))), [], 6), count(house, [], 6))
            if many > 1:
                for voice in range(1, many + 1):
                    left = without(house, voice)
                    self.assertTrue(all(is_let_by(left, line) for line in lines_let_by(house, 4)))
            try:
                over = turned_over(house)
            except NoHouse:
                continue
            lines = [line_over(house, line) for line in lines_let_by(house, 4)]
            self.assertEqual(sorted(lines), sorted(lines_let_by(over, 4)))
            self.assertEqual(onward(over, [])[0], onward(house, [])[0])


class Kept(unittest.TestCase):
    house = house_of(3, 2, 7, [(1, 2, False), (0, 4, True)], [("above", 1, 0), ("again", 2), ("span", 1, 0b1111110)])
    other = house_of(3, 1, 12, [(0, 0, False)], [("above", 0, 1), ("again", 1), ("leap", 1)])

    def calls(self):
        """Each function of the interface, with what is handed in."""
        house, other, line = self.house, self.other, [0, 1]
        paper = [((3, (0, 0, 0)), 0)]
        return [(is_follower, (1, 0, True)), (is_follower, [1, 0, True]), (is_rule, 2, 7, 2, ["leap", 1]),
                (house_of, 3, 2, 7, [(1, 2, False)], [("leap", 1)]), (pitch, (1, 0, True), 2), (sung, house, line, 1, 1),
                (span, 7, -2, 9), (score, house, line), (breaks, house, [2, 2, 2, 2]), (first_break, house, [2, 2, 2]),
                (is_let_by, house, line), (memory, house), (stand_of, house, line), (is_stand, house, (1, (0,))),
                (nexts, house, (1, (0,))), (behind, house, (1, (0,)), 2), (come, other, (0, ())), (onward, other, line),
                (onward, house, []), (shows_end, other, (3, (0, 0, 0)), paper), (shows_round, other, line, [0, 1], [0, 1]),
                (count, other, line, 3), (nth, other, line, 3, 0), (number_of, other, line, [0]), (compared, house, house),
                (compared, house, other), (shows_alike, other, other, compared(other, other)[1]), (less, house, 1),
                (needed, house, 1), (needed, other, 2), (exchanged, house, [2, 1]), (without, house, 1), (turned_over, house),
                (line_over, house, line), (show_house, house), (show_line, line), (read_house, show_house(house)),
                (read_line, house, "0 1 2")]

    def test_nothing_that_is_handed_in_is_changed(self):
        for call in self.calls():
            before = copy.deepcopy(call[1:])
            call[0](*call[1:])
            self.assertEqual(call[1:], before, call[0])

    def test_each_answer_is_the_same_again(self):
        rights = [copy.deepcopy(call[0](*call[1:])) for call in self.calls()]
        for call, right in list(zip(self.calls(), rights))[::-1]:
            told = call[0](*call[1:])
            self.assertEqual(told, right, call[0])
            self.spoil(told)
        for call, right in zip(self.calls(), rights):
            self.assertEqual(call[0](*call[1:]), right, call[0])

    def spoil(self, told):
        if isinstance(told, (list, tuple)):
            for part in told:
                self.spoil(part)
        if isinstance(told, list):
            told.append("more")
            told.reverse()

    def test_what_was_handed_in_is_spoilt_behind_the_call(self):
        for call in self.calls():
            parts = copy.deepcopy(call[1:])
            told = call[0](*parts)
            right = copy.deepcopy(told)
            for part in parts:
                if isinstance(part, list):
                    self.spoil(part)
            self.assertEqual(told, right, call[0])
            self.assertEqual(call[0](*call[1:]), right, call[0])

    def test_true_and_false_are_no_whole_numbers(self):
        for wrong in (True, False):
            with self.assertRaises(NoHouse):
                house_of(wrong, 1, 1, [(0, 0, False)], [])
            for ask in (less, needed, without):
                with self.assertRaises(NoNumber):
                    ask(self.house, wrong)
            self.assertIs(is_stand(self.house, (1, (wrong,))), False)

    def test_each_refusal_is_a_canon_error(self):
        for ask, kind in ((lambda: less(self.house, 9), NoNumber), (lambda: without(self.other, 1), NoHouse),
                          (lambda: Desk(None), CanonError), (lambda: compared(self.house, (4,) + self.house[1:]), CanonError)):
            with self.assertRaises(kind) as caught:
                ask()
            self.assertIsInstance(caught.exception, ValueError)


if __name__ == "__main__":
    unittest.main()
