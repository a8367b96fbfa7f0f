"""RULES that copy again and again, against all RUNS of many small WEBS."""

import random
import unittest

from hintring import errors
from hintring.hours import hour_road, hours, is_web, rests
from tests.cases import Case
from tests.makers import subsets
from tests.runs_of_webs import can_be_late, hours_by_runs, random_web

WEB = (3, (("meet", (0, 1), 4, 0, 100), ("meet", (1, 2), 3, 0, 100)))
ONCE = (2, (("copy", (0, 1), 5, 10, 15),))
GREAT = 10 ** 9
UPTO = 14


def random_cases(seed, count):
    rng = random.Random(seed)
    return [(web, rng.choice(subsets(range(web[0]))), rng.choice((0, 0, 1, 2, 3, 5)))
            for web in (random_web(rng) for _ in range(count))]


class AllRuns(Case):
    CASES = random_cases(500, 2000)

    def test_hours(self):
        late = 0
        for web, lot, tick in self.CASES:
            told = hours(web, lot, tick)
            self.assertEqual(told, hours_by_runs(web, lot, tick, UPTO), (web, lot, tick))
            late += sum(hour > tick for hour in told)
        self.assertGreater(late, 600)

    def test_the_late_run(self):
        resting = 0
        for web, lot, tick in self.CASES:
            told = rests(web, lot, tick)
            self.assertEqual(len(told), len(web[1]))
            self.assertTrue(can_be_late(web, lot, tick, told, hours(web, lot, tick), UPTO), (web, lot, tick))
            resting += sum(pair != (0, 0) for pair in told)
        self.assertGreater(resting, 600)

    def test_rests_as_they_are_said(self):
        for web, lot, tick in self.CASES:
            told = hours(web, lot, tick)
            for (kind, places, _, _, stop), pair in zip(web[1], rests(web, lot, tick)):
                row = [stop + 1 if told[place] == -1 or told[place] > stop else told[place] for place in places]
                low, high = (min(row), max(row)) if kind == "meet" else row
                self.assertEqual(pair, (low, high) if low < high else (0, 0))

    def test_hour_roads(self):
        long = 0
        for web, lot, tick in self.CASES:
            told = hours(web, lot, tick)
            for place in range(web[0]):
                if told[place] == -1:
                    self.assertRaises(errors.CanNot, hour_road, web, lot, tick, place)
                else:
                    steps = hour_road(web, lot, tick, place)
                    self.check_road(web, lot, told, place, steps)
                    long += len(steps) > 1
        self.assertGreater(long, 15)

    def check_road(self, web, lot, told, place, steps):
        if place in lot:
            self.assertEqual(steps, ())
            return
        self.assertEqual(steps[-1][2], place)
        self.assertIn(steps[0][1], lot)
        for ahead, step in zip(steps, steps[1:]):
            self.assertEqual(ahead[2], step[1])
        for number, one, other, hour in steps:
            self.assertEqual(hour, told[other])
            able = [(k, giver) for k, rule in enumerate(web[1]) for giver in range(web[0])
                    if gives(rule, giver, other) and told[giver] >= 0
                    and max(told[giver], rule[3]) + rule[2] == hour <= rule[4]]
            self.assertEqual((number, one), min(able))


def gives(rule, one, other):
    if rule[0] == "copy":
        return rule[1] == (one, other)
    return one != other and one in rule[1] and other in rule[1]


class Edges(Case):
    def test_no_rules_nobody(self):
        self.assertEqual(hours((2, ()), (0,), 7), (7, -1))
        self.assertEqual(rests((2, ()), (0,), 7), ())
        self.assertEqual(hours(WEB, (), 7), (-1, -1, -1))
        self.assertEqual(rests(WEB, (), 7), ((0, 0), (0, 0)))
        self.assertEqual(hours(WEB, (0, 1, 2), 7), (7, 7, 7))
        self.assertRaises(errors.CanNot, hour_road, WEB, (), 7, 0)
        self.assertEqual(hour_road(WEB, (0,), 7, 0), ())

    def test_a_rule_that_starts_late_or_stops_early(self):
        late = (2, (("meet", (0, 1), 3, 10, 100),))
        self.assertEqual([hours(late, (0,), tick)[1] for tick in (0, 9, 10, 11, 97, 98)], [13, 13, 13, 14, 100, -1])
        self.assertEqual(rests(late, (0,), 98), ((98, 101),))
        self.assertEqual(rests(late, (0,), 102), ((0, 0),))
        self.assertEqual(hours((2, (("copy", (0, 1), 1, 5, 5),)), (0,), 0), (0, -1))
        self.assertEqual(hours((2, (("copy", (0, 1), 5, 5, 9),)), (0,), 0), (0, -1))
        self.assertEqual(hours((2, (("copy", (0, 1), 4, 5, 9),)), (0,), 0), (0, 9))
        self.assertEqual(hours((2, (("copy", (1, 0), 4, 5, 9),)), (0,), 0), (0, -1))
        self.assertEqual(rests((2, (("copy", (1, 0), 4, 5, 9),)), (0,), 0), ((0, 0),))

    def test_the_least_step_backward(self):
        twice = (3, (("copy", (1, 2), 2, 0, 50), ("meet", (0, 2), 4, 0, 50), ("copy", (0, 1), 2, 0, 50),
                     ("copy", (1, 2), 2, 0, 50)))
        self.assertEqual(hour_road(twice, (0,), 1, 2), ((2, 0, 1, 3), (0, 1, 2, 5)))
        self.assertEqual(hour_road(twice[:1] + (twice[1][1:],), (0,), 1, 2), ((0, 0, 2, 5),))
        both = (3, (("meet", (0, 1, 2), 2, 0, 50),))
        self.assertEqual(hour_road(both, (0, 1), 1, 2), ((0, 0, 2, 3),))

    def test_at_the_bounds(self):
        rules = tuple(("meet", (k, k + 1), GREAT // 10, 0, GREAT) for k in range(7))
        rules += tuple(("copy", (k, (k + 3) % 8), GREAT, 0, GREAT) for k in range(8)) + rules[:5]
        web = (8, rules)
        self.assertEqual(len(rules), 20)
        self.assertEqual(hours(web, (0,), 5), (5,) + tuple(GREAT // 10 * k + 5 for k in range(1, 8)))
        self.assertEqual(hour_road(web, (7,), 0, 0)[0], (6, 7, 6, GREAT // 10))
        self.assertEqual(len(hour_road(web, (7,), 0, 0)), 7)
        self.assertEqual(hours(web, (7,), GREAT), (-1,) * 7 + (GREAT,))

    def test_refusals(self):
        for action in (hours, rests):
            self.refused(errors.NoPlace, 3, action, WEB, (0, 3, 4), 0)
            self.refused(errors.NoPlace, -1, action, WEB, (-1, 3), 0)
        self.refused(errors.NoPlace, 3, hour_road, WEB, (3,), 0, 4)
        self.refused(errors.NoPlace, 4, hour_road, WEB, (), 0, 4)
        self.refused(errors.NoPlace, -1, hour_road, WEB, (0,), 0, -1)


class Things(Case):
    def test_is_web(self):
        rule = ("meet", (0, 1), 4, 0, 100)
        self.assertIs(is_web(WEB), True)
        self.assertIs(is_web(ONCE), True)
        for thing in ((1, ()), (2, (rule,)), (2, (rule,) * 50), (10 ** 30, (("copy", (10 ** 29, 0), 1, 5, 5),)),
                      (100, (("meet", tuple(range(100)), 10 ** 30, 0, 0),))):
            self.assertIs(is_web(thing), True, thing)
        for thing in (None, 0, True, "", "ab", (), (2,), [2, ()], (2, []), (2, (), ()), (0, ()), (-1, ()), (True, ()),
                      (None, ()), ("2", ()), (2, None), (2, rule), (2, [rule]), (2, (list(rule),)), (1, (rule,)),
                      (2, (rule[:4],)), (2, (rule + (0,),)), (2, ("meet",)), (2, (None,))):
            self.assertIs(is_web(thing), False, thing)
        for at, worths in ((0, ("Meet", "", None, 0, ("meet",), ["meet"])),
                           (1, ((0,), (), (1, 0), (0, 0), (0, 2), (-1, 0), [0, 1], (0, True), (0, "1"), 1, None,
                                ((0,), (1,)), "01")),
                           (2, (0, -1, True, None, "4")), (3, (-1, 101, False, None, "0")),
                           (4, (-1, True, None, "9"))):
            for worth in worths:
                self.assertIs(is_web((2, (rule[:at] + (worth,) + rule[at + 1:],))), False, worth)
        for places in ((0,), (0, 0), (0, 1, 2), (0, 3), (-1, 0), [0, 1], (False, 1), ("0", 1), (None, 0), 0, "01"):
            self.assertIs(is_web((3, (("copy", places, 4, 0, 9),))), False, places)
        self.assertIs(is_web((3, (("copy", (2, 0), 4, 9, 9),))), True)
        self.assertIs(is_web((3, (("meet", (2, 0), 4, 9, 9),))), False)


if __name__ == "__main__":
    unittest.main()
