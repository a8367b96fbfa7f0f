"""Lags, against all RUNS of many small WEBS."""

import random
import unittest

from hintring import errors
from hintring.families import by_count
from hintring.hours import hours
from hintring.lags import far_lots, hour_grace, lag, least_told, longest_every
from tests import oracles
from tests.cases import Case
from tests.makers import subsets
from tests.runs_of_webs import hours_by_runs, random_lots, random_web, run_states

WEB = (3, (("meet", (0, 1), 4, 0, 100), ("meet", (1, 2), 3, 0, 100)))
ONES = ((0,), (1,), (2,))
GREAT = 10 ** 9
UPTO = 14


def random_cases(seed, count):
    rng, found = random.Random(seed), []
    for _ in range(count):
        web = random_web(rng)
        lots = [random_lots(rng, web[0]) if rng.random() < 0.95 else ((),) for _ in range(2)]
        found.append((web, lots[0], lots[1], rng.choice((0, 0, 1, 2, 4))))
    return found


def misses(web, lot, some, tick, now):
    """Whether in some RUN a read of some, at the end of this tick, misses it."""
    return any(oracles.read(cells, some) == 0 for cells in run_states(web, ((tick, 1, lot),), UPTO)[now])


def lag_of_pair(web, lot, some, tick):
    """The least number of ticks behind which no read can miss it, as far as is looked."""
    late = [now for now in range(tick, UPTO + 1) if misses(web, lot, some, tick, now)]
    if late and late[-1] == UPTO:
        return -1
    return late[-1] + 1 - tick if late else 0


def worst(lags):
    return -1 if -1 in lags else max(lags)


class AllRuns(Case):
    CASES = random_cases(510, 400)

    def test_lag_and_far_lots(self):
        seen = set()
        for web, family, lots, tick in self.CASES:
            told = {(lot, some): lag_of_pair(web, lot, some, tick) for lot in family for some in lots}
            wanted = worst(told.values())
            self.assertEqual(lag(web, family, lots, tick), wanted, (web, family, lots, tick))
            self.assertEqual(far_lots(web, family, lots, tick),
                             min(pair for pair, one in told.items() if one == wanted))
            seen.add(wanted)
        self.assertTrue({-1, 0, 1, 2, 3, 4} <= seen)

    def test_hour_grace(self):
        for web, family, lots, tick in self.CASES:
            told = [hour for lot in family for hour in hours_by_runs(web, lot, tick, UPTO)]
            for life in (0, 1, 7):
                wanted = -1 if -1 in told else max(told) - tick + life + 1
                self.assertEqual(hour_grace(web, family, tick, life), wanted)

    def test_longest_every(self):
        rng, seen = random.Random(511), set()
        for web, family, lots, tick in self.CASES:
            places = rng.choice([some for some in subsets(range(web[0])) if len(some) > 1])
            for limit in (0, 1, 3, 5):
                wanted = self.longest_by_all(web, family, lots, tick, limit, places)
                self.assertEqual(longest_every(web, family, lots, tick, limit, places), wanted)
                seen.add(wanted)
        self.assertTrue({0, 1, 2, 3, 5} <= seen)

    def longest_by_all(self, web, family, lots, tick, limit, places):
        able = []
        for every in range(1, limit + 1):
            more = (web[0], web[1] + (("meet", places, every, tick, tick + limit),))
            told = worst([self.lag_by_hours(more, lot, some, tick) for lot in family for some in lots])
            if 0 <= told <= limit:
                able.append(every)
        return max(able, default=0)

    def lag_by_hours(self, web, lot, some, tick):
        told = [hour for place, hour in enumerate(hours(web, lot, tick)) if place in some and hour >= 0]
        return min(told) - tick if told else -1


class Told(Case):
    def test_least_told(self):
        rng, seen, below = random.Random(512), set(), 0
        for _ in range(1200):
            web = random_web(rng, many=3, most_rules=2)
            family, lots = random_lots(rng, 3, 2), random_lots(rng, 3)
            ages = rng.sample(range(1, 9), rng.randrange(0, 4))
            tick = rng.randrange(0, 7)
            dones = tuple((version, rng.randrange(0, tick + 1)) for version in ages)
            wanted = self.least_by_runs(web, family, lots, dones, tick)
            self.assertEqual(least_told(web, family, lots, dones, tick), wanted, (web, family, lots, dones, tick))
            seen.add(wanted)
            below += 0 < wanted < max(ages + [0])
        self.assertGreater(len(seen), 6)
        self.assertGreater(below, 15)

    def least_by_runs(self, web, family, lots, dones, tick):
        takings = [()]
        for version, done in dones:
            takings = [row + ((done, version, lot),) for row in takings for lot in family]
        return min(oracles.read(cells, some) for row in takings for cells in run_states(web, row, tick)[tick]
                   for some in lots)


class Edges(Case):
    def test_no_rules(self):
        web = (3, ())
        self.assertEqual(lag(web, ONES, ONES, 4), -1)
        self.assertEqual(far_lots(web, ONES, ONES, 4), ((0,), (1,)))
        self.assertEqual(lag(web, by_count((0, 1, 2), 2), by_count((0, 1, 2), 2), 4), 0)
        self.assertEqual(far_lots(web, by_count((0, 1, 2), 2), by_count((0, 1, 2), 2), 4), ((0, 1), (0, 1)))
        self.assertEqual(hour_grace(web, ONES, 4, 9), -1)
        self.assertEqual(hour_grace(web, ((0, 1, 2),), 4, 9), 10)
        self.assertEqual(least_told(web, ONES, ONES, (), 4), 0)
        self.assertEqual(least_told(web, ((0, 1, 2),), ONES, ((7, 4), (2, 3)), 4), 7)

    def test_nobody_asked_or_took(self):
        self.assertEqual((lag(WEB, ((),), ONES, 0), lag(WEB, ONES, ((),), 0)), (-1, -1))
        self.assertEqual(far_lots(WEB, ((),), ONES, 0), ((), (0,)))
        self.assertEqual(far_lots(WEB, ONES, ((),), 0), ((0,), ()))
        self.assertEqual(hour_grace(WEB, ((),), 0, 3), -1)
        self.assertEqual(least_told(WEB, ONES, ((),), ((3, 0),), 50), 0)
        self.assertEqual(longest_every(WEB, ONES, ((),), 0, 50, (0, 2)), 0)

    def test_limits(self):
        self.assertEqual(longest_every(WEB, ONES, ONES, 10, 0, (0, 2)), 0)
        self.assertEqual(longest_every((2, ()), ((0,), (1,)), ((0,), (1,)), 3, 0, (0, 1)), 0)
        self.assertEqual(longest_every((2, ()), ((0,), (1,)), ((0,), (1,)), 3, GREAT, (0, 1)), GREAT)
        self.assertEqual(longest_every(WEB, ONES, ONES, 10, 3, (0, 2)), 0)
        self.assertEqual(longest_every(WEB, ONES, ONES, 10, 4, (0, 1, 2)), 4)
        # It is near enough as it is, so a meeting as seldom as can be will do.
        self.assertEqual(longest_every(WEB, ONES, ONES, 10, 7, (0, 2)), 7)
        self.assertEqual(longest_every((2, ()), ((0, 1),), ((0,), (1,)), 3, 0, (0, 1)), 0)

    def test_a_tie_is_told_by_the_least_pair(self):
        web = (3, (("meet", (0, 1, 2), 5, 0, 100),))
        self.assertEqual(far_lots(web, ONES, ONES, 10), ((0,), (1,)))
        self.assertEqual(far_lots(web, ((0, 1), (0, 2)), ONES, 10), ((0, 1), (2,)))

    def test_at_the_bounds(self):
        owners = tuple(range(8))
        rules = tuple(("meet", (k, k + 1), 3 + k, k, GREAT) for k in range(7))
        rules += tuple(("copy", (k, (k + 3) % 8), 50 + k, 0, GREAT) for k in range(8)) + rules[:5]
        web, four = (8, rules), by_count(owners, 4)
        told = lag(web, four, four, 1000)
        lot, some = far_lots(web, four, four, 1000)
        self.assertEqual(told, min(hours(web, lot, 1000)[place] for place in some) - 1000)
        self.assertEqual(longest_every(web, four, four, 1000, GREAT - 1000, (0, 7)), GREAT - 1000)
        self.assertEqual(hour_grace(web, four, 1000, GREAT),
                         max(max(hours(web, one, 1000)) for one in four) - 1000 + GREAT + 1)
        dones = tuple((k + 1, 10 * k) for k in range(24))
        self.assertEqual(least_told(web, four, four, dones, 250), 24 if told <= 20 else 23)

    def test_refusals(self):
        self.refused(errors.NoPlace, 3, longest_every, WEB, ONES, ONES, 0, 5, (1, 3, 4))
        self.refused(errors.NoPlace, -1, longest_every, WEB, ONES, ONES, 0, 0, (-1, 3))


if __name__ == "__main__":
    unittest.main()
