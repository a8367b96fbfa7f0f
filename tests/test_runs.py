"""Runs: what a place shows, key by key, ahead of each pour and behind it; all orders."""

import random
import unittest
from itertools import permutations

from hintring import errors
from hintring.runs import is_runs, may_drop, poured, shown, taking_order
from tests import oracles
from tests.cases import Case
from tests.makers import random_book, random_world

RUNS = ((0, 1), (1, 3)), ((0, 4),), ((1, 2),)
GREAT = 10 ** 9


def latest(runs, key):
    return max([version for run in runs for one, version in run if one == key] + [0])


def shows(runs, struck, key):
    told = latest(runs, key)
    return 0 if told in struck else told


def keys_of(runs):
    return sorted({key for run in runs for key, _ in run}) + [77]


def drops(runs, struck, numbers, key):
    """Whether the latest of the poured runs is a STRIKE, and no earlier PUT is the latest elsewhere."""
    strike = latest([runs[at] for at in numbers], key)
    other = latest([run for at, run in enumerate(runs) if at not in numbers], key)
    return strike in struck and not (other > 0 and other not in struck and other < strike)


def pour(runs, struck, numbers, version):
    """(RUNS that are kept, the new run) of a pour, key by key."""
    fresh = []
    for key in keys_of([runs[at] for at in numbers])[:-1]:
        told = latest([runs[at] for at in numbers], key)
        if not (told in struck and told <= version and drops(runs, struck, numbers, key)):
            fresh.append((key, told))
    return tuple(run for at, run in enumerate(runs) if at not in numbers), tuple(fresh)


def order_by_all(runs, struck, numbers, version):
    """The least order by which nothing that is shown ever changes."""
    kept, fresh = pour(runs, struck, numbers, version)
    wanted = [shows(runs, struck, key) for key in keys_of(runs)]
    for order in permutations(numbers):
        steps = [kept + (fresh,) + tuple(runs[at] for at in order[done:]) for done in range(len(order) + 1)]
        if all([shows(step, struck, key) for key in keys_of(runs)] == wanted for step in steps):
            return order
    return None


def random_runs(rng, most=4, keys=4, ages=7):
    return tuple(tuple((key, rng.randrange(1, ages)) for key in range(keys) if rng.random() < 0.5)
                 for _ in range(rng.randrange(1, most + 1)))


def random_cases(seed, count, most=4, keys=4, ages=7):
    """So many tuples (runs, struck, numbers, version)."""
    rng, found = random.Random(seed), []
    while len(found) < count:
        runs = random_runs(rng, most, keys, ages)
        struck = tuple(one for one in range(1, ages) if rng.random() < 0.5)
        numbers = tuple(sorted(rng.sample(range(len(runs)), rng.randrange(1, len(runs) + 1))))
        found.append((runs, struck, numbers, rng.choice((0, 2, 4, GREAT, GREAT))))
    return found


def struck_cases(seed, count):
    """The same of runs in which most keys have one STRIKE, later than their PUTS elsewhere."""
    rng, found = random.Random(seed), []
    for _ in range(count):
        many = rng.choice((2, 2, 3, 3, 4))
        runs = [{} for _ in range(many)]
        struck = set()
        for key in range(rng.randrange(1, 6)):
            order = rng.sample(range(many), rng.randrange(1, many + 1))
            for at in order[1:]:
                runs[at][key] = rng.randrange(1, 40)
            runs[order[0]][key] = 50 + key
            struck |= {50 + key} if rng.random() < 0.9 else set()
        numbers = tuple(sorted(rng.sample(range(many), rng.choice((many, many, rng.randrange(1, many + 1))))))
        found.append((tuple(tuple(sorted(run.items())) for run in runs), tuple(sorted(struck)), numbers, 60))
    return found


class Pours(Case):
    CASES = random_cases(1100, 400) + struck_cases(1108, 150)

    def test_shown(self):
        for runs, struck, _, _ in self.CASES:
            for key in keys_of(runs):
                self.assertEqual(shown(runs, struck, key), shows(runs, struck, key))

    def test_may_drop(self):
        seen = []
        for runs, struck, numbers, _ in self.CASES:
            for key in keys_of(runs):
                wanted = drops(runs, struck, numbers, key)
                self.assertIs(may_drop(runs, struck, numbers, key), wanted)
                seen.append(wanted)
        self.assertTrue(seen.count(True) > 300 and seen.count(False) > 300)

    def test_poured(self):
        thrown = 0
        for runs, struck, numbers, version in self.CASES:
            kept, fresh = pour(runs, struck, numbers, version)
            told = poured(runs, struck, numbers, version)
            self.assertEqual(told, kept + (fresh,))
            self.assertIs(is_runs(told), True)
            thrown += len(fresh) < len(keys_of([runs[at] for at in numbers])) - 1
        self.assertGreater(thrown, 100)

    def test_what_is_shown_does_not_change(self):
        rng = random.Random(1101)
        for runs, struck, _, version in self.CASES:
            wanted = [shown(runs, struck, key) for key in range(5)]
            for _ in range(3):
                numbers = tuple(sorted(rng.sample(range(len(runs)), rng.randrange(1, len(runs) + 1))))
                runs = poured(runs, struck, numbers, version)
                self.assertEqual([shown(runs, struck, key) for key in range(5)], wanted)

    def test_the_order_of_the_runs_never_matters(self):
        rng = random.Random(1102)
        for runs, struck, numbers, version in self.CASES[:200]:
            order = rng.sample(range(len(runs)), len(runs))
            turned = tuple(runs[at] for at in order)
            places = tuple(sorted(order.index(at) for at in numbers))
            for key in keys_of(runs):
                self.assertEqual(shown(turned, struck, key), shown(runs, struck, key))
                self.assertEqual(may_drop(turned, struck, places, key), may_drop(runs, struck, numbers, key))
            self.assertEqual(poured(turned, struck, places, version)[-1], poured(runs, struck, numbers, version)[-1])
            self.assertEqual(taking_order(turned, struck, places, version) is None,
                             taking_order(runs, struck, numbers, version) is None)

    def test_what_may_not_be_dropped_is_needed(self):
        met = 0
        for runs, struck, numbers, _ in self.CASES:
            kept, fresh = pour(runs, struck, numbers, 0)
            for key, version in fresh:
                if version in struck and not may_drop(runs, struck, numbers, key):
                    without = kept + (tuple(pair for pair in fresh if pair[0] != key),)
                    self.assertEqual(shown(runs, struck, key), 0)
                    self.assertTrue(0 < shown(without, struck, key) < version)
                    met += 1
        self.assertGreater(met, 50)


class Orders(Case):
    CASES = random_cases(1103, 300) + random_cases(1104, 60, most=6, keys=3, ages=13) + struck_cases(1105, 500)

    def test_taking_order_by_all_orders(self):
        seen = []
        for runs, struck, numbers, version in self.CASES:
            wanted = order_by_all(runs, struck, numbers, version)
            self.assertEqual(taking_order(runs, struck, numbers, version), wanted)
            seen.append(None if wanted is None else wanted == numbers)
        self.assertTrue(min(seen.count(one) for one in (None, True, False)) > 40)

    def test_an_order_exists_if_none_wait_in_a_ring(self):
        met = []
        for runs, struck, numbers, version in self.CASES:
            kept, fresh = pour(runs, struck, numbers, version)
            thrown = [key for key in keys_of([runs[at] for at in numbers])[:-1] if key not in dict(fresh)]
            strikes = {key: [at for at in numbers if dict(runs[at]).get(key) in struck] for key in thrown}
            if any(len(strikes[key]) != 1 or latest(kept, key) for key in thrown):
                continue
            waits = {(at, strikes[key][0]) for key in thrown for at in numbers
                     if key in dict(runs[at]) and at != strikes[key][0]}
            # A run with a PUT goes ahead of the one with its STRIKE, so a ring of them bars all.
            barred = not any(all(order.index(at) < order.index(other) for at, other in waits)
                             for order in permutations(numbers))
            self.assertEqual(taking_order(runs, struck, numbers, version) is None, barred)
            met.append((barred, len(waits) > 0))
        self.assertTrue(met.count((True, True)) > 30 and met.count((False, True)) > 100)

    def test_a_place_of_a_book(self):
        rng = random.Random(1106)
        for _ in range(80):
            book = random_book(rng, 3, 5, kinds=("put", "strike", "send", "copy", "wait"))
            world = random_world(rng, book)
            struck = tuple(deed[2] for deed in book[2] if deed[0] == "strike")
            cells = oracles.play(book, world)[0]
            for place in range(3):
                got = tuple(((0, row[place]),) for row in cells if row[place])
                told = cells[-1][place]
                self.assertEqual(shown(got, struck, 0), 0 if told in struck else told)


class Edges(Case):
    def test_nothing_there(self):
        self.assertEqual((shown((), (), 0), shown(((),), (1,), 0), shown(RUNS, (4,), 9)), (0, 0, 0))
        self.assertEqual((poured(((),), (), (0,), 9), poured(((), ()), (), (0, 1), 9)), (((),), ((),)))
        self.assertIs(may_drop(((), ((0, 1),)), (1,), (0,), 0), False)
        self.assertIs(may_drop(RUNS, (4,), (0,), 9), False)
        self.assertEqual((taking_order(((),), (), (0,), 0), taking_order(((), ()), (), (0, 1), 0)), ((0,), (0, 1)))

    def test_a_pour_that_throws_all(self):
        runs = (((0, 1),), ((0, 2), (1, 3)))
        self.assertEqual(poured(runs, (2, 3), (0, 1), 9), ((),))
        self.assertEqual(taking_order(runs, (2, 3), (0, 1), 9), (0, 1))
        self.assertEqual(poured(runs, (2, 3), (0, 1), 2), (((1, 3),),))
        self.assertEqual(poured(runs, (2, 3), (1,), 9), (((0, 1),), ((0, 2),)))

    def test_what_is_elsewhere(self):
        one = (((0, 5),),)
        self.assertEqual([may_drop(one + (((0, other),),), struck, (0,), 0)
                          for other, struck in ((4, (5,)), (4, (4, 5)), (6, (5,)), (5, (5,)), (6, (5, 6)), (4, (4,)))],
                         [False, True, True, True, True, False])

    def test_the_version_up_to_which_is_thrown(self):
        runs = (((0, 3),), ((1, 3),))
        self.assertEqual([poured(runs, (3,), (0,), version) for version in (0, 2, 3, 4)],
                         [(((1, 3),), ((0, 3),))] * 2 + [(((1, 3),), ())] * 2)

    def test_numbers_that_are_no_positions(self):
        for numbers in ((), (3,), (-1,), (0, 3), (1, 0), (0, 0), (-1, 0), (GREAT,), []):
            self.assertRaises(errors.Unfit, may_drop, RUNS, (4,), numbers, 0)
            self.assertRaises(errors.Unfit, poured, RUNS, (4,), numbers, 0)
            self.assertRaises(errors.Unfit, taking_order, RUNS, (4,), numbers, 0)
        self.assertRaises(errors.Unfit, poured, (), (), (0,), 0)
        self.assertEqual(poured(RUNS, (4,), [0, 2], 0), (((0, 4),), ((0, 1), (1, 3))))

    def test_at_the_bounds(self):
        rng = random.Random(1107)
        runs = tuple(tuple((key, rng.randrange(1, GREAT)) for key in sorted(rng.sample(range(40),
                                                                                       24))) for _ in range(6))
        struck = tuple(sorted({version for run in runs for _, version in run if rng.random() < 0.5}))
        for numbers in ((0, 1, 2, 3, 4, 5), (0, 2, 4), (5,)):
            told = poured(runs, struck, numbers, GREAT)
            self.assertEqual(told, pour(runs, struck, numbers, GREAT)[0] + (pour(runs, struck, numbers, GREAT)[1],))
            self.assertEqual(taking_order(runs, struck, numbers, 0), numbers)
            order = taking_order(runs, struck, numbers, GREAT)
            self.assertEqual(order, order_by_all(runs, struck, numbers, GREAT))


class Things(Case):
    def test_is_runs(self):
        for thing in (RUNS, (), ((),), ((), ()), (((0, 1),),), (((10 ** 30, 10 ** 30),),), (((0, 2), (1, 1)),) * 9):
            self.assertIs(is_runs(thing), True, thing)
        for thing in (None, 0, True, "", "ab", [], [()], ([],), ([(0, 1)],), (([0, 1],),), ((0, 1),), (None,), (0,),
                      ("",), (((0,),),), (((0, 1, 2),),), (((-1, 1),),), (((0, 0),),), (((0, -1),),), (((True, 1),),),
                      (((0, True),),), (((1, 2), (0, 1)),), (((0, 1), (0, 2)),), (((0, 1), (0, 1)),), ((("0", 1),),),
                      (((0, "1"),),), (((0, None),),), (((0, 1),), None), (((0, 1), None),), ((((0,), 1),),)):
            self.assertIs(is_runs(thing), False, thing)


if __name__ == "__main__":
    unittest.main()
