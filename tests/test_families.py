"""Families, against all sets of a few PLACES."""

import random
import unittest
from itertools import combinations, product

from hintring import errors
from hintring.families import (apart, blockers, both, by_count, by_sites, either, has_lot, is_family, least,
                               least_common, renamed_family, room)
from tests import oracles
from tests.makers import all_families, lots_below, random_family

NOBODY = ((),)
THREE = all_families((0, 1, 2))
FOUR = all_families((0, 1, 2, 3))


class Making(unittest.TestCase):
    def test_by_count(self):
        for homes in ((), (0,), (2, 5), (1, 2, 4, 7), tuple(range(8))):
            for need in range(len(homes) + 1):
                lots = [some for some in combinations(homes, need)]
                self.assertEqual(by_count(homes, need), tuple(sorted(lots)))
                self.assertTrue(is_family(by_count(homes, need), 8))
            for need in (-1, -5, len(homes) + 1, 1000000000):
                self.assertRaises(errors.Unfit, by_count, homes, need)
        self.assertEqual(by_count((), 0), NOBODY)
        self.assertEqual(by_count((3, 4), 0), NOBODY)
        self.assertEqual(len(by_count(tuple(range(8)), 4)), 70)

    def test_by_sites(self):
        for sites in ((), ((0, 1), (2, 3)), ((4, 6), (1, 5, 7)), ((3,), (0, 1), (2,)), ((),), ((1, 2), ())):
            for needs in product(*[range(len(site) + 1) for site in sites]):
                lots = [some for some in lots_below(8)
                        if all(len(set(some) & set(site)) == need for site, need in zip(sites, needs))
                        and all(any(place in site for site in sites) for place in some)]
                self.assertEqual(by_sites(sites, needs), tuple(lots))
        self.assertEqual(by_sites((), ()), NOBODY)
        self.assertEqual(by_sites(((0, 1), (2, 3)), (0, 0)), NOBODY)

    def test_by_sites_refuses(self):
        for sites, needs in ((((0, 1), (1, 2)), (1, 1)), (((0, 1), (2,), (0,)), (0, 0, 0)), (((0, 1),), (-1,)),
                             (((0, 1),), (3,)), (((0, 1), (2,)), (1, 2)), (((),), (1,))):
            self.assertRaises(errors.Unfit, by_sites, sites, needs)

    def test_least(self):
        rng = random.Random(20)
        for _ in range(300):
            lots = tuple(rng.choice(lots_below(4)) for _ in range(rng.randrange(1, 8)))
            self.assertEqual(least(lots), oracles.minimal(lots))
        self.assertRaises(errors.Unfit, least, ())
        self.assertEqual(least(((),)), NOBODY)
        self.assertEqual(least(((2, 3), (), (1,))), NOBODY)
        self.assertEqual(least(((3, 7), (2,), (3, 7))), ((2,), (3, 7)))


class Asking(unittest.TestCase):
    def test_has_lot_and_room(self):
        for family in FOUR:
            for some in lots_below(4):
                self.assertIs(has_lot(family, some), oracles.holds(family, some))
                free = [lot for lot in family if not set(lot) & set(some)]
                self.assertEqual(room(family, some), free[0] if free else None)

    def test_some_may_be_any_set_of_numbers(self):
        family = ((0, 1), (2,))
        self.assertTrue(has_lot(family, (-7, 0, 1, 10 ** 9)))
        self.assertFalse(has_lot(family, (-2, -1, 0, 10 ** 9)))
        self.assertEqual(room(family, (-3, 2, 10 ** 9)), (0, 1))
        self.assertEqual(room(NOBODY, (0, 1)), ())
        self.assertIs(has_lot(NOBODY, ()), True)

    def test_apart_and_least_common(self):
        for family, other in product(THREE, THREE):
            pairs = [(one, two) for one in family for two in other if not set(one) & set(two)]
            self.assertEqual(apart(family, other), min(pairs) if pairs else None)
            shared = min(len(set(one) & set(two)) for one in family for two in other)
            self.assertEqual(least_common(family, other), shared)

    def test_renamed(self):
        for family in FOUR:
            for names in ((3, 1, 0, 2), (7, 5, 6, 4), (1, 2, 3, 0, 9)):
                lots = sorted(tuple(sorted(names[place] for place in lot)) for lot in family)
                self.assertEqual(renamed_family(family, names), tuple(lots))

    def test_renamed_refuses_the_least_place_without_a_name(self):
        for family in FOUR:
            for names in ((), (4,), (4, 2), (4, 2, 0)):
                missing = [place for lot in family for place in lot if place >= len(names)]
                if missing:
                    with self.assertRaises(errors.NoPlace) as seen:
                        renamed_family(family, names)
                    self.assertEqual(seen.exception.number, min(missing))
        self.assertEqual(renamed_family(NOBODY, ()), NOBODY)


class Combining(unittest.TestCase):
    def test_blockers(self):
        for family in FOUR:
            if family == NOBODY:
                self.assertRaises(errors.Unfit, blockers, family)
            else:
                wanted = oracles.family_where(range(4), lambda some: all(set(lot) & set(some) for lot in family))
                self.assertEqual(blockers(family), wanted)

    def test_either_and_both(self):
        pairs = list(product(THREE, THREE)) + random.Random(21).sample(list(product(FOUR, FOUR)), 400)
        for family, other in pairs:
            holds = lambda some: (oracles.holds(family, some), oracles.holds(other, some))
            self.assertEqual(either(family, other), oracles.family_where(range(4), lambda some: any(holds(some))))
            self.assertEqual(both(family, other), oracles.family_where(range(4), lambda some: all(holds(some))))

    def test_guarantees(self):
        rng = random.Random(22)
        rows = [family for family in FOUR if family != NOBODY]
        for family in rows:
            for some in lots_below(4):
                self.assertEqual(has_lot(blockers(family), some), room(family, some) is None)
            self.assertEqual(blockers(blockers(family)), family)
        for _ in range(400):
            one, two = rng.choice(rows), rng.choice(rows)
            self.assertEqual(blockers(either(one, two)), both(blockers(one), blockers(two)))
            self.assertEqual(blockers(both(one, two)), either(blockers(one), blockers(two)))
            held = all(has_lot(blockers(one), lot) for lot in two)
            self.assertEqual(apart(one, two) is None, held)

    def test_at_the_bounds(self):
        half = by_count(tuple(range(8)), 4)
        self.assertEqual(blockers(half), by_count(tuple(range(8)), 5))
        self.assertEqual(both(half, half), half)
        self.assertEqual(either(half, ((7,),)), tuple(sorted(by_count(tuple(range(7)), 4) + ((7,),))))
        self.assertEqual((least_common(half, half), apart(half, half)), (0, ((0, 1, 2, 3), (4, 5, 6, 7))))
        for seed in range(20):
            family = random_family(random.Random(seed), tuple(range(8)))
            self.assertEqual(blockers(blockers(family)), family)


class Things(unittest.TestCase):
    def test_all_tuples_of_lots_of_three_places(self):
        lots = lots_below(2)
        for length in range(4):
            for thing in product(lots, repeat=length):
                self.assertIs(is_family(thing, 2), thing in set(all_families((0, 1))))

    def test_is_family(self):
        for thing, many in ((NOBODY, 0), (NOBODY, 1), (((0,),), 1), (((0, 1), (0, 2), (1, 2)), 3),
                            (((10 ** 40,),), 10 ** 41), (((0, 5), (1, 4)), 6), (by_count(tuple(range(8)), 4), 8),
                            (tuple((k,) for k in range(3000)), 3000), (tuple(combinations(range(14), 7)), 14)):
            self.assertIs(is_family(thing, many), True)
        for thing in ((), None, 0, 1, "", "ab", True, [], [()], [(0,)], ((0,), (0,)), ((1,), (0,)),
                      ((0, 1), (0,)), ((0,), (0, 1)), ((0, 1), (1,)), ((), (0,)),
                      ((0, 1, 2), (0, 2)), ((0, 3),), ((-1,),), ((1, 0),), ((0, 0),), ((True,),), ((0, True),),
                      ((False,),), ((None,),), (("0",),), (0, 1), ([0, 1],), [(0, 1)], ("01",), (None,),
                      (((0,),),), ((0, (1,)),), ((0,), None), (((((((((((0,),),),),),),),),),),)):
            self.assertIs(is_family(thing, 3), False, thing)
        self.assertIs(is_family(((0, 1), (1, 2, 10 ** 30)), 10 ** 31), True)
        self.assertIs(is_family(((0, 1), (0, 1, 10 ** 30)), 10 ** 31), False)
        self.assertIs(is_family(((0, 10 ** 30), (0, 1, 10 ** 30)), 10 ** 31), False)


if __name__ == "__main__":
    unittest.main()
