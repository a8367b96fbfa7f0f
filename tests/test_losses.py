"""Losses that no DEED tells, against all roads and all sets of POINTS."""

import random
import unittest
from functools import lru_cache
from itertools import combinations

from hintring import errors
from hintring.books import is_book, last, versions
from hintring.families import by_count
from hintring.losses import (is_parted, least_cut, least_losses, losses_borne, trails_apart, with_cut, worst_cut)
from hintring.misses import can_miss
from tests import oracles
from tests.cases import Case
from tests.makers import all_worlds, random_book, small_books, subsets

TWO_OF = ((0, 1), (0, 2), (1, 2))
PLAIN = (3, 2, (("put", 0, 1, (0, 1, 2), TWO_OF),))
TAKEN_OVER = (4, 2, (("put", 0, 1, (0, 1, 2), TWO_OF), ("copy", 4, 0, 3)))
EMPTY = (2, 0, ())
GREAT = 10 ** 9
KINDS = ("put", "put", "strike", "copy", "copy", "copy", "lose", "wait")


def writes_from(book, version):
    return [k for k, deed in enumerate(book[2]) if oracles.is_written(deed) and deed[2] >= version]


def all_trails(book, takers, some, version):
    found = []
    for number, lot in zip(writes_from(book, version), takers):
        for place in lot:
            found += [(number + 1, road) for road in oracles.all_roads(book, number + 1, place, last(book))
                      if road[-1] in some]
    return found


def points_of(trail):
    moment, road = trail
    return {(moment + at, place) for at, place in enumerate(road)}


def parts(book, takers, some, version, cut):
    return all(points_of(trail) & set(cut) for trail in all_trails(book, takers, some, version))


def most_apart(trails):
    """The greatest number of trails that are apart, tried one by one."""
    if not trails:
        return 0
    first, rest = trails[0], trails[1:]
    free = [trail for trail in rest if not points_of(trail) & points_of(first)]
    return max(1 + most_apart(free), most_apart(rest)) if len(free) < len(rest) else 1 + most_apart(free)


def cut_in(book, cut):
    """with_cut, DEED by DEED."""
    rows = []
    for k in range(last(book) + 1):
        tick = book[2][k - 1][1] if k else 0
        rows += [("lose", tick, place) for moment, place in cut if moment == k] + list(book[2][k:k + 1])
    return book[0], book[1], tuple(rows)


def all_points(book):
    return [(k, place) for k in range(1, last(book) + 1) for place in range(book[0])]


@lru_cache(maxsize=None)
def least_by_cuts(book, some, version):
    """The least number of POINTS with which some can miss it, by all cuts."""
    for size in range(len(some) + 1):
        for cut in combinations(all_points(book), size):
            if can_miss(cut_in(book, cut), some, version):
                return size


def random_cases(seed, count, many=3, deeds=(1, 2, 3, 4, 5, 6)):
    rng, found = random.Random(seed), []
    while len(found) < count:
        book = random_book(rng, rng.choice((2, many, many)), rng.choice(deeds), kinds=KINDS)
        if versions(book) or rng.random() < 0.1:
            version = rng.choice((1,) + versions(book) + (max(versions(book) + (0,)) + 1,))
            some = rng.choice(subsets(range(book[0])))
            takers = tuple(rng.choice(subsets(range(book[0]))) for _ in writes_from(book, version))
            found.append((book, takers, some, version))
    return found


class Trails(Case):
    CASES = random_cases(800, 250) + random_cases(801, 60, 4)

    def test_as_many_trails_as_can_be(self):
        seen = set()
        for book, takers, some, version in self.CASES:
            trails = all_trails(book, takers, some, version)
            told = trails_apart(book, takers, some, version)
            self.assertEqual(list(told), sorted(set(told)))
            for trail in told:
                self.assertIn(trail, trails)
            for one, other in combinations(told, 2):
                self.assertFalse(points_of(one) & points_of(other))
            if len(trails) <= 24:
                self.assertEqual(len(told), most_apart(trails))
            seen.add(len(told))
        self.assertTrue({0, 1, 2, 3} <= seen)

    def test_a_least_cut_is_as_great(self):
        for book, takers, some, version in self.CASES:
            told = least_cut(book, takers, some, version)
            self.assertEqual(list(told), sorted(set(told)))
            self.assertTrue(set(told) <= set(all_points(book)))
            self.assertTrue(parts(book, takers, some, version, told))
            self.assertEqual(len(told), len(trails_apart(book, takers, some, version)))

    def test_earlier_trails_are_led_anew(self):
        # The first trail found goes from 0 to 2, over the only POINT by which 1 can come.
        deeds = (("put", 0, 1, (0, 1), ((0, 1),)), ("copy", 1, 0, 3), ("copy", 2, 0, 2), ("copy", 3, 1, 2),
                 ("lose", 4, 0), ("lose", 4, 1))
        self.assertEqual(trails_apart((4, 0, deeds), ((0, 1),), (2, 3), 1),
                         ((1, (0, 3, 3, 3, 3, 3)), (1, (1, 1, 1, 2, 2, 2))))
        for book, takers, some, version in random_cases(805, 150, 5, (8, 10, 12)):
            told = trails_apart(book, takers, some, version)
            self.assertEqual(len(told), len(least_cut(book, takers, some, version)))
            for moment, road in told:
                self.assertIn(road[-1], some)
                self.assertEqual(moment + len(road), last(book) + 1)
                self.assertTrue(any(moment == number + 1 and road[0] in lot
                                    for number, lot in zip(writes_from(book, version), takers)))
                for at, (one, other) in enumerate(zip(road, road[1:])):
                    self.assertIn((one, other), oracles.all_roads(book, moment + at, one, moment + at + 1))
            for one, other in combinations(told, 2):
                self.assertFalse(points_of(one) & points_of(other))

    def test_no_smaller_cut_parts(self):
        for book, takers, some, version in self.CASES[::3]:
            size = len(least_cut(book, takers, some, version))
            if 0 < size < 3:
                for cut in combinations(all_points(book), size - 1):
                    self.assertFalse(parts(book, takers, some, version, cut))

    def test_is_parted(self):
        rng, seen = random.Random(802), []
        for book, takers, some, version in self.CASES:
            points = [(0, 0)] + all_points(book)
            for _ in range(6):
                cut = tuple(sorted(rng.sample(points, min(len(points), rng.randrange(0, 5)))))
                wanted = parts(book, takers, some, version, cut)
                self.assertIs(is_parted(book, takers, some, version, cut), wanted)
                seen.append(wanted)
        self.assertTrue(seen.count(True) > 200 and seen.count(False) > 200)

    def test_a_read_can_tell_less_exactly_if_the_cut_parts(self):
        rng = random.Random(803)
        books = small_books(804, 60, 800, deeds=(1, 2, 3, 4), kinds=KINDS)
        for book in books:
            for version in (1,) + versions(book)[1:]:
                cut = tuple(sorted(rng.sample(all_points(book), min(len(all_points(book)), rng.randrange(0, 4)))))
                self.check_worlds(book, version, cut)

    def check_worlds(self, book, version, cut):
        less = {}
        changed = cut_in(book, cut)
        numbers = [k for k, deed in enumerate(changed[2]) if oracles.is_written(deed) and deed[2] >= version]
        for world in all_worlds((book[0], 0) + changed[2:]):
            cells = oracles.play(changed, world)[0][-1]
            takers = tuple(world[k][0] for k in numbers)
            for some in subsets(range(book[0])):
                key = (takers, some)
                less[key] = less.get(key, False) or oracles.read(cells, some) < version
        for (takers, some), wanted in less.items():
            self.assertIs(is_parted(book, takers, some, version, cut), wanted)

    def test_one_write_alone(self):
        for lot in subsets(range(3)):
            for some in subsets(range(3)):
                book = PLAIN[:2] + (PLAIN[2] + (("wait", 5),),)
                wanted = len(set(lot) & set(some))
                self.assertEqual(len(trails_apart(book, (lot,), some, 1)), wanted)
                self.assertEqual(len(least_cut(book, (lot,), some, 1)), wanted)


class Least(Case):
    CASES = random_cases(810, 160, deeds=(1, 2, 3, 4, 5))

    def test_least_losses_by_all_cuts(self):
        seen = set()
        for book, _, some, version in self.CASES:
            wanted = least_by_cuts(book, some, version)
            self.assertEqual(least_losses(book, some, version), wanted)
            seen.add(wanted)
        self.assertTrue({0, 1, 2} <= seen)

    def test_worst_cut(self):
        for book, _, some, version in self.CASES:
            takers, cut = worst_cut(book, some, version)
            numbers = writes_from(book, version)
            self.assertEqual(len(takers), len(numbers))
            for number, lot in zip(numbers, takers):
                self.assertIn(lot, book[2][number][4])
            self.assertEqual(len(cut), least_losses(book, some, version))
            self.assertEqual(list(cut), sorted(set(cut)))
            self.assertTrue(parts(book, takers, some, version, cut))
            self.assertTrue(can_miss(with_cut(book, cut), some, version))

    def test_losses_borne(self):
        for book, _, _, version in self.CASES[:70]:
            owners = tuple(range(book[0]))
            for some in (owners, owners[1:], ()):
                for asked in range(len(some) + 2):
                    told = [least_by_cuts(book, lot, version) for lot in combinations(some, asked)]
                    wanted = min(told) - 1 if told else None
                    self.assertEqual(losses_borne(book, some, asked, version), wanted)

    def test_with_cut(self):
        rng = random.Random(811)
        for book, _, _, _ in self.CASES:
            points = [(k, place) for k in range(last(book) + 1) for place in range(book[0])]
            cut = tuple(sorted(rng.sample(points, rng.randrange(0, 4))))
            self.assertEqual(with_cut(book, cut), cut_in(book, cut))
            self.assertTrue(is_book(with_cut(book, cut)))
        # It stands behind what stood there, whatever the order of the POINTS.
        self.assertEqual(with_cut(PLAIN, ((0, 2), (1, 0), (1, 1)))[2],
                         (("lose", 0, 2),) + PLAIN[2] + (("lose", 0, 0), ("lose", 0, 1)))
        late = (2, 0, (("wait", 7), ("lose", 9, 1)))
        self.assertEqual(with_cut(late, ((1, 1), (2, 0)))[2],
                         (("wait", 7), ("lose", 7, 1), ("lose", 9, 1), ("lose", 9, 0)))


class Edges(Case):
    def test_no_write_from_version(self):
        for book, version in ((EMPTY, 1), (PLAIN, 2), (TAKEN_OVER, GREAT)):
            self.assertEqual(trails_apart(book, (), (0, 1), version), ())
            self.assertEqual(least_cut(book, (), (0, 1), version), ())
            self.assertIs(is_parted(book, (), (0, 1), version, ()), True)
            self.assertEqual(least_losses(book, (0, 1), version), 0)
            self.assertEqual(worst_cut(book, (0, 1), version), ((), ()))
            self.assertEqual(losses_borne(book, (0, 1), 1, version), -1)

    def test_no_trails(self):
        gone = (2, 0, (("put", 0, 1, (0,), ((0,),)), ("lose", 1, 0)))
        self.assertEqual(trails_apart(gone, ((0,),), (0, 1), 1), ())
        self.assertEqual(least_cut(gone, ((0,),), (0, 1), 1), ())
        self.assertEqual(worst_cut(gone, (0, 1), 1), (((0,),), ()))
        self.assertEqual(trails_apart(PLAIN, ((),), (0, 1), 1), ())
        self.assertEqual(trails_apart(PLAIN, ((0, 1),), (), 1), ())
        self.assertEqual(least_losses(PLAIN, (), 1), 0)
        nobody = (2, 0, (("put", 0, 1, (0, 1), ((),)),))
        self.assertEqual((least_losses(nobody, (0, 1), 1), worst_cut(nobody, (0, 1), 1)), (0, (((),), ())))

    def test_a_write_without_homes(self):
        book = (2, 0, (("put", 0, 1, (), ((),)), ("put", 0, 2, (0,), ((0,),))))
        self.assertEqual((least_losses(book, (0, 1), 1), worst_cut(book, (0, 1), 1)), (1, (((), (0,)), ((2, 0),))))
        self.assertEqual(trails_apart(book, ((), (0,)), (0, 1), 1), ((2, (0,)),))
        self.assertEqual(least_losses(book, (1,), 1), 0)
        self.assertEqual(least_losses((2, 0, book[2][:1]), (0, 1), 1), 0)

    def test_owners_are_too_few(self):
        self.assertIsNone(losses_borne(PLAIN, (0, 1), 3, 1))
        self.assertIsNone(losses_borne(PLAIN, (), 1, 2))
        self.assertEqual(losses_borne(PLAIN, (), 0, 1), -1)
        self.assertEqual(losses_borne(PLAIN, (0, 1, 2), 0, 1), -1)

    def test_takers_need_be_no_homes(self):
        self.assertEqual(trails_apart(TAKEN_OVER, ((3,),), (3,), 1), ((1, (3, 3)),))
        self.assertEqual(least_cut(TAKEN_OVER, ((3,),), (0, 1), 1), ())

    def test_refusals(self):
        for action in (trails_apart, least_cut):
            self.refused(errors.NoPlace, 4, action, TAKEN_OVER, (), (0, 4, 5), 0)
            self.refused(errors.NoVersion, 0, action, TAKEN_OVER, (), (0,), 0)
            self.assertRaises(errors.Unfit, action, TAKEN_OVER, (), (0,), 1)
            self.assertRaises(errors.Unfit, action, TAKEN_OVER, ((0,), (1,)), (0,), 1)
            self.assertRaises(errors.Unfit, action, TAKEN_OVER, ((0,),), (0,), 2)
        self.refused(errors.NoPlace, 4, is_parted, TAKEN_OVER, (), (4,), 0, ((0, 9),))
        self.refused(errors.NoVersion, -1, is_parted, TAKEN_OVER, (), (0,), -1, ((0, 9),))
        for action, args in ((is_parted, (TAKEN_OVER, (), (0,), 1)), (with_cut, (TAKEN_OVER,))):
            self.refused(errors.NoPlace, 9, action, *args, ((9, 9), (-1, 0)))
            self.refused(errors.NoMoment, 3, action, *args, ((0, 0), (3, 0), (3, 9)))
            self.refused(errors.NoMoment, -1, action, *args, ((-1, 0), (0, 4)))
            self.refused(errors.NoPlace, 4, action, *args, ((0, 4), (9, 0)))
        self.assertRaises(errors.Unfit, is_parted, TAKEN_OVER, (), (0,), 1, ((2, 3),))
        for action, args in ((least_losses, ()), (worst_cut, ()), (losses_borne, (1,))):
            self.refused(errors.NoPlace, 4, action, TAKEN_OVER, (4,), *args, 0)
            self.refused(errors.NoVersion, 0, action, TAKEN_OVER, (0,), *args, 0)

    def test_too_many_begins(self):
        four, owners = by_count(range(4), 2)[:5], tuple(range(8))
        five = tuple(("put", k, k + 1, (0, 1, 2, 3), four) for k in range(3))
        fits = five + (("put", 3, 4, (0, 1, 2, 3), by_count(range(4), 3)),)
        self.assertEqual(5 * 5 * 5 * 4, 500)
        more = fits + (("strike", 4, 5, (0, 1), ((0,), (1,))),)
        for action, args in ((least_losses, ()), (worst_cut, ()), (losses_borne, (1,))):
            action((8, 0, fits), owners, *args, 1)
            self.assertRaises(errors.TooMany, action, (8, 0, more), owners, *args, 1)
            action((8, 0, more), owners, *args, 2)
            self.refused(errors.NoPlace, 8, action, (8, 0, more), (8,), *args, 1)
        self.assertRaises(errors.TooMany, losses_borne, (8, 0, more), (0,), 2, 1)
        self.assertIsNone(losses_borne((8, 0, fits), (0,), 2, 1))

    def test_at_the_bounds(self):
        owners = tuple(range(8))
        deeds = (("put", 0, 1, owners, by_count(owners, 4)),) + tuple(
            ("copy", k, k % 8, (k * 3 + 1) % 8) for k in range(1, 20) if k % 8 != (k * 3 + 1) % 8)
        deeds += (("strike", 30, 2, owners[:7], by_count(owners[:7], 6)),)
        book = (8, 0, deeds + (("copy", 31, 0, 7), ("copy", 32, 1, 6), ("lose", 33, 2))[:24 - len(deeds)])
        self.assertLessEqual(last(book), 24)
        for some in (owners, (0, 3, 6), (2,)):
            takers, cut = worst_cut(book, some, 1)
            self.assertEqual(len(cut), least_losses(book, some, 1))
            self.assertIs(is_parted(book, takers, some, 1, cut), True)
            self.assertEqual(len(trails_apart(book, takers, some, 1)), len(cut))
        borne = [losses_borne(book, owners, asked, 1) for asked in range(9)]
        self.assertEqual(borne, sorted(borne))
        self.assertEqual(borne[8], least_losses(book, owners, 1) - 1)
        whole = (8, 0, (("put", 0, 1, owners, (owners,)),) + (("copy", 1, 0, 1),) * 23)
        self.assertEqual(len(trails_apart(whole, (owners,), owners, 1)), 8)
        self.assertEqual(least_losses(whole, owners, 1), 8)


if __name__ == "__main__":
    unittest.main()
