"""The whole store, point by point: OWNERS, DEEDS and PASTS as [23] says them."""

import random
import unittest

from hintring import errors
from hintring.books import is_book
from hintring.store import (book_of, fails_at, is_safe, is_store, is_trial, least_askers, missed, owner_lot,
                            safe_numbers,
                            stretches, trial_book, weak_point, weak_stretches, with_ring)
from hintring.worlds import is_world, tells
from tests import oracles
from tests.cases import Case
from tests.makers import random_ring
from tests.stores import (all_lots, book_by_acts, nodes_of, owners, points_of, random_store, random_stores,
                          random_trial,
                          stretch_points, trial_by_acts, weak_lots)

RING = (12, ((0, 0), (3, 1), (6, 2), (9, 3)))
OTHER = (12, ((0, 0), (3, 1), (6, 2), (8, 4), (9, 3)))
CALM = (3, 5, (RING,), (("put", 0, 1, 7, 0, 2),))
GROWN = with_ring(CALM, OTHER, 4)
BARE = (2, 0, ((5, ()),), ())
GREAT = 10 ** 9


class Stores(Case):
    CASES = random_stores(1300, 250)

    def test_owner_lot_and_book_of(self):
        for store in self.CASES:
            self.assertIs(is_store(store), True)
            for point in range(points_of(store)):
                for epoch in range(len(store[2])):
                    self.assertEqual(owner_lot(store, epoch, point), tuple(sorted(owners(store, epoch, point))))
                told = book_of(store, point)
                self.assertEqual(told, book_by_acts(store, point))
                self.assertIs(is_book(told), True)

    def test_stretches(self):
        for store in self.CASES:
            points = points_of(store)
            starts = {(spot + 1) % points for ring in store[2] for spot, _ in ring[1]}
            for act in store[3]:
                if act[0] in ("pour", "post"):
                    starts |= {act[4], (act[5] + 1) % points}
            told = stretches(store)
            if not starts:
                self.assertEqual(told, ((0, points - 1),))
                continue
            self.assertEqual(tuple(first for first, _ in told), tuple(sorted(starts)))
            met = [point for stretch in told for point in stretch_points(store, stretch)]
            self.assertEqual(sorted(met), list(range(points)))

    def test_points_of_a_stretch_are_alike(self):
        for store in self.CASES:
            quiet = store[:3] + (tuple(act if act[0] not in ("put", "strike") else ("pause",
                                                                                    act[1]) for act in store[3]),)
            for stretch in stretches(store):
                alike = [(book_of(quiet, point), [owners(store, epoch, point) for epoch in range(len(store[2]))])
                         for point in stretch_points(store, stretch)]
                self.assertEqual(alike, [alike[0]] * len(alike))

    def test_missed(self):
        seen = set()
        for store in self.CASES:
            for epoch in range(len(store[2])):
                for asked in range(1, store[0] + 1):
                    wanted = tuple(act[2] for act in store[3] if act[0] in ("put", "strike") and any(
                        oracles.misses(book_by_acts(store, act[3]), lot, act[2])
                        for lot in all_lots(owners(store, epoch, act[3]), asked)))
                    self.assertEqual(missed(store, epoch, asked), wanted)
                    seen.add(len(wanted))
        self.assertTrue({0, 1, 2} <= seen)

    def test_equal_calls_and_copies(self):
        listed = [3, 5, [[12, [[0, 0], [3, 1]]]], [["put", 0, 1, 7, 0, 2]]]
        told = with_ring(listed, [12, [[0, 0], [4, 2]]], 4)
        listed[3][0][1] = 9
        self.assertEqual(told[3][0], ("put", 0, 1, 7, 0, 2))
        self.assertIs(is_store(told), True)


class Trials(Case):
    def test_trials_point_by_point(self):
        rng, seen = random.Random(1301), []
        for store in random_stores(1302, 220):
            trial = random_trial(rng, store)
            self.assertIs(is_trial(store, trial), True)
            weak = set()
            for point in range(points_of(store)):
                self.assertEqual(trial_book(store, trial, point), trial_by_acts(store, trial, point))
                self.assertIs(is_book(trial_book(store, trial, point)), True)
                wanted = len(weak_lots(store, trial, point)) > 0
                self.assertIs(fails_at(store, trial, point), wanted)
                weak |= {point} if wanted else set()
            told = weak_stretches(store, trial)
            self.assertEqual(told, tuple(one for one in stretches(store) if one[0] in weak))
            self.assertEqual({point for one in told for point in stretch_points(store, one)}, weak)
            self.assertIs(is_safe(store, trial), not weak)
            self.check_weak_point(store, trial, told)
            seen.append(len(told) > 0)
        self.assertTrue(seen.count(True) > 40 and seen.count(False) > 40)

    def check_weak_point(self, store, trial, told):
        found = weak_point(store, trial)
        if not told:
            self.assertIsNone(found)
            return
        point, some, world = found
        self.assertEqual((point, some), (told[0][0], min(weak_lots(store, trial, told[0][0]))))
        book = trial_by_acts(store, trial, point)
        self.assertIs(is_world(book, world), True)
        self.assertEqual(tells(book, world, some, len(book[2])), 0)
        self.assertEqual(weak_point(store, trial), found)

    def test_least_askers_and_safe_numbers(self):
        rng, seen = random.Random(1303), set()
        for store in random_stores(1304, 120):
            number, epoch, need, reader, asked = random_trial(rng, store)
            points = range(points_of(store))
            fine = [one for one in range(1, store[0] + 1)
                    if not any(weak_lots(store, (number, epoch, need, reader, one), point) for point in points)]
            wanted = min(fine, default=None)
            self.assertEqual(least_askers(store, (number, epoch, need, reader, asked)), wanted)
            safe = tuple(one for one in range(len(store[3]) + 1)
                         if not any(weak_lots(store, (one, epoch, need, reader, asked), point) for point in points))
            self.assertEqual(safe_numbers(store, epoch, need, reader, asked), safe)
            seen.add(wanted)
        self.assertTrue({None, 1, 2} <= seen)


class Rings(Case):
    def test_with_ring(self):
        rng, poured = random.Random(1305), 0
        for store in random_stores(1306, 200):
            ring = random_ring(rng, points_of(store))
            tick = max([act[1] for act in store[3]], default=0) + rng.randrange(3)
            told = with_ring(store, ring, tick)
            self.assertIs(is_store(told), True)
            self.assertEqual((told[:2], told[2]), (store[:2], store[2] + (ring,)))
            fresh, pair = [], (store[0], 0, (store[2][-1], ring), ())
            for first, last in stretches(pair):
                old, new = owners(pair, 0, first), owners(pair, 1, first)
                outs, ins = [one for one in old if one not in new], [one for one in new if one not in old]
                fresh += [("pour", tick, one, other, first, last) for one, other in zip(outs, ins)]
            self.assertEqual(told[3], store[3] + tuple(fresh))
            poured += len(fresh) > 1
        self.assertGreater(poured, 60)

    def test_what_pours_keep_safe(self):
        rng, met = random.Random(1307), 0
        while met < 60:
            store = random_store(rng, 0)
            ring = random_ring(rng, points_of(store))
            rows = [set(owners((store[0], 0, (one,), ()), 0, point)) for one in (store[2][-1], ring)
                    for point in range(points_of(store))]
            if any(len(row) < store[0] for row in rows):
                continue
            met += 1
            told = with_ring(store, ring, 3)
            old, new = len(told[2]) - 2, len(told[2]) - 1
            for need in range(1, store[0] + 1):
                trial = (0, old, need, new, store[0] + 1 - need)
                self.assertIs(is_safe(told, trial), True)

    def test_refusals(self):
        for ring, tick in (((11, ()), 4), ((13, OTHER[1]), 4), (OTHER, -1), (OTHER, -GREAT)):
            self.assertRaises(errors.Unfit, with_ring, CALM, ring, tick)
        later = CALM[:3] + (CALM[3] + (("pause", 9),),)
        self.assertRaises(errors.Unfit, with_ring, later, OTHER, 8)
        self.assertEqual(with_ring(later, OTHER, 9)[3][2][:2], ("pour", 9))
        # Where nothing is poured no tick stands in the STORE.
        self.assertEqual(with_ring(later, RING, 8), later[:2] + ((RING, RING), later[3]))

    def test_pours_across_point_0(self):
        told = with_ring((1, 0, ((10, ((2, 0), (5, 1))),), ()), (10, ((2, 2), (5, 1))), 0)
        self.assertEqual(told[3], (("pour", 0, 0, 2, 6, 2),))
        self.assertEqual(stretches(told), ((3, 5), (6, 2)))
        self.assertEqual([book_of(told, point)[2] for point in (0, 2, 3, 5, 6, 9)],
                         [(("copy", 0, 0, 2),)] * 2 + [(("wait", 0),)] * 2 + [(("copy", 0, 0, 2),)] * 2)


class Edges(Case):
    def test_without_acts_and_without_spots(self):
        self.assertEqual((stretches(BARE), owner_lot(BARE, 0, 4), book_of(BARE, 0)), (((0, 4),), (), (1, 0, ())))
        self.assertEqual(missed(BARE, 0, 1), ())
        trial = (0, 0, 1, 0, 2)
        self.assertIs(is_trial(BARE, trial), True)
        self.assertEqual(trial_book(BARE, trial, 0), (1, 0, (("put", 0, 1, (), ((),)),)))
        self.assertEqual((weak_stretches(BARE, trial), least_askers(BARE, trial), safe_numbers(BARE, 0, 1, 0, 1)),
                         (((0, 4),), None, ()))
        self.assertEqual(weak_point(BARE, trial), (0, (), (((), ()),)))
        calm = CALM[:3] + ((),)
        self.assertEqual((trial_book(calm, (0, 0, 2, 0, 2), 7)[2], is_safe(calm, (0, 0, 2, 0, 2))),
                         ((("put", 0, 1, (0, 1, 3), ((0, 1), (0, 3), (1, 3))),), True))

    def test_a_need_above_the_number_of_owners(self):
        store = (4, 0, ((5, ((0, 0), (2, 1))),), (("put", 3, 9, 1, 0, 2),))
        self.assertEqual(trial_book(store, (0, 0, 4, 0, 4), 1)[2], (("put", 3, 1, (0, 1), ((0, 1),)), ("wait", 3)))
        self.assertEqual(trial_book(store, (1, 0, 1, 0, 1), 1)[2], (("wait", 3), ("put", 3, 1, (0, 1), ((0,), (1,)))))
        self.assertEqual((least_askers(store, (0, 0, 4, 0, 1)), least_askers(store, (0, 0, 1, 0, 1))), (1, 2))
        self.assertEqual((missed(store, 0, 1), missed(store, 0, 4)), ((), ()))

    def test_a_trial_behind_all_acts(self):
        acts = (("crash", 2, 0), ("crash", 7, 1))
        store = (2, 0, ((6, ((1, 0), (4, 1))),), acts)
        self.assertEqual(trial_book(store, (2, 0, 1, 0, 1), 0)[2], (("lose", 2, 0), ("lose", 7, 1),
                                                                    ("put", 7, 1, (0, 1), ((0,), (1,)))))
        self.assertEqual([trial_book(store, (number, 0, 1, 0, 1), 0)[2][number][1] for number in (0, 1, 2)], [2, 7, 7])
        self.assertEqual((safe_numbers(store, 0, 2, 0, 1), safe_numbers(store, 0, 2, 0, 2)), ((2,), (1, 2)))

    def test_copies_that_are_not_enough(self):
        store = (2, 0, ((6, ((1, 0), (4, 1))),), (("crash", 2, 0), ("crash", 7, 1)))
        self.assertEqual([least_askers(store, (number, 0, 2, 0, 1)) for number in (0, 1, 2)], [None, 2, 1])

    def test_a_start_that_is_met_twice(self):
        store = (1, 0, ((6, ((1, 0), (4, 1))),), (("pour", 0, 0, 1, 2, 4), ("post", 0, 1, 0, 2, 2)))
        self.assertEqual(stretches(store), ((2, 2), (3, 4), (5, 1)))
        self.assertEqual([deed[0] for deed in book_of(store, 2)[2]], ["copy", "send"])
        one = (1, 0, ((1, ((0, 3),)),), (("put", 0, 1, 0, 0, 1),))
        self.assertEqual((stretches(one), book_of(one, 0)), (((0, 0),), (4, 0, (("put", 0, 1, (3,), ((3,),)),))))

    def test_refusals(self):
        self.refused(errors.NoEpoch, 1, owner_lot, CALM, 1, 99)
        self.refused(errors.NoEpoch, -1, owner_lot, CALM, -1, 0)
        for point in (12, -1, GREAT):
            self.refused(errors.NoPoint, point, owner_lot, CALM, 0, point)
            self.refused(errors.NoPoint, point, book_of, CALM, point)
            self.refused(errors.NoPoint, point, trial_book, CALM, (0, 0, 1, 0, 1), point)
            self.refused(errors.NoPoint, point, fails_at, CALM, (0, 0, 1, 0, 1), point)
        self.refused(errors.NoEpoch, 2, missed, GROWN, 2, 1)
        self.refused(errors.NoEpoch, 5, safe_numbers, GROWN, 5, 1, 7, 1)
        self.refused(errors.NoEpoch, -7, safe_numbers, GROWN, 1, 1, -7, 1)
        for action in (trial_book, fails_at):
            self.refused(errors.NoEpoch, 4, action, GROWN, (0, 4, 1, 9, 1), 99)
            self.refused(errors.NoEpoch, 9, action, GROWN, (0, 1, 1, 9, 1), 99)
        for action in (weak_stretches, is_safe, weak_point, least_askers):
            self.refused(errors.NoEpoch, 4, action, GROWN, (0, 4, 1, 9, 1))
            self.refused(errors.NoEpoch, -1, action, GROWN, (0, 1, 1, -1, 1))

    def test_at_the_bounds(self):
        rng = random.Random(1308)
        epochs = tuple((64, tuple((point, rng.randrange(8)) for point in sorted(rng.sample(range(64), 12))))
                       for _ in range(6))
        store = (4, 9, epochs, ())
        nodes = sorted(nodes_of(store))
        acts = tuple(("pour", k, *rng.sample(nodes, 2), rng.randrange(64), rng.randrange(64)) if k % 3 else
                     ("put", k, k + 1, rng.randrange(64), k % 6, 2) for k in range(24))
        store = store[:3] + (acts,)
        self.assertIs(is_store(store), True)
        self.assertGreater(len(stretches(store)), 40)
        for trial in ((0, 0, 2, 5, 3), (24, 3, 4, 3, 1)):
            weak = [point for point in range(64) if weak_lots(store, trial, point)]
            self.assertEqual([point for one in weak_stretches(store, trial) for point in stretch_points(store, one)
                              if point in weak], [point for one in weak_stretches(store, trial)
                                                  for point in stretch_points(store, one)])
            self.assertEqual(is_safe(store, trial), not weak)
        told = safe_numbers(store, 5, 3, 5, 2)
        self.assertIn(24, told)
        self.assertEqual(missed(store, 3, 4), tuple(act[2] for act in acts if act[0] == "put" and oracles.misses(
            book_by_acts(store, act[3]), tuple(sorted(owners(store, 3, act[3]))), act[2])))


class Things(Case):
    def test_is_store(self):
        put, pour = ("put", 0, 1, 7, 0, 2), ("pour", 1, 0, 3, 7, 2)
        good = (CALM, GROWN, BARE, CALM[:3] + ((put, pour, ("post", 1, 3, 0, 5, 5), ("crash", 2, 3), ("pause", 2)),),
                CALM[:3] + ((put, ("strike", 0, 2, 7, 0, 3)),), (1, 0, (RING,), (("put", 0, 1, 0, 0, 1),)))
        for thing in good:
            self.assertIs(is_store(thing), True, thing)
        for thing in ((True,) + BARE[1:], ("2",) + BARE[1:], (None,) + BARE[1:], (2, True) + BARE[2:],
                      None, 0, True, "", "abcd", (), list(CALM), CALM[:3], CALM + (0,), (0,) + CALM[1:],
                      (5,) + CALM[1:],
                      (True,) + CALM[1:], (3, -1) + CALM[2:], (3, True) + CALM[2:], (3, 5, (), ()), (3, 5, [RING], ()),
                      (3, 5, (RING, (13, ())), ()), (3, 5, RING, ()), (3, 5, (RING,), []), (3, 5, (RING,), None)):
            self.assertIs(is_store(thing), False, thing)
        for act in (None, 0, "put", (), ("put",), [*put], put[:5], put + (0,), ("put", -1, 1, 7, 0, 2),
                    ("put", True, 1, 7, 0, 2), ("put", 0, 0, 7, 0, 2), ("put", 0, True, 7, 0, 2),
                    ("put", 0, 1, 12, 0, 2), ("put", 0, 1, -1, 0, 2), ("put", 0, 1, 7, 1, 2), ("put", 0, 1, 7, -1, 2),
                    ("put", 0, 1, 7, 0, 0), ("put", 0, 1, 7, 0, 4), ("put", 0, 1, 7, 0, True), ("put", 0, "1", 7, 0, 2),
                    ("pot", 0, 1, 7, 0, 2), ("pour", 1, 0, 0, 7, 2), ("pour", 1, 0, 4, 7, 2), ("pour", 1, 5, 0, 7, 2),
                    ("pour", 1, 0, 3, 12, 2), ("pour", 1, 0, 3, 7, -1), ("pour", 1, 0, 3, -1, 2),
                    ("pour", 1, 0, 3, 7, 12), ("pour", 1, 0, 3, 7), ("post", 1, 0, 3, 7, None),
                    ("post", 1, 0, False, 7, 2), ("crash", 1, 4), ("crash", 1, -1), ("crash", 1), ("crash", 1, 3, 3),
                    ("pause", 1, 1), ("pause", -1), ("pause", None), ("wait", 1), (("put",), 0), ("pause",), (0, 1)):
            self.assertIs(is_store(CALM[:3] + ((act,),)), False, act)
        for acts in ((put, put), (put, ("put", 0, 1, 3, 0, 1)), (("pause", 2), ("pause", 1)), (pour, put),
                     (("put", 0, 5, 7, 0, 2), ("strike", 1, 4, 2, 0, 2))):
            self.assertIs(is_store(CALM[:3] + (acts,)), False, acts)
        # Who stands in no EPOCH pours nothing, and an EPOCH without spots has no OWNERS.
        self.assertIs(is_store((3, 5, (RING, (12, ())), (("put", 0, 1, 7, 1, 1),))), False)
        self.assertIs(is_store((2, 5, (RING,), (("put", 0, 1, 7, 0, 3),))), False)

    def test_is_trial(self):
        for thing in ((0, 0, 1, 0, 1), (1, 0, 3, 0, 3)):
            self.assertIs(is_trial(CALM, thing), True, thing)
        self.assertIs(is_trial(GROWN, (4, 1, 3, 0, 3)), True)
        for thing in (None, 0, True, "", "01234", (), [0, 0, 1, 0, 1], (0, 0, 1, 0), (0, 0, 1, 0, 1, 0),
                      (2, 0, 1, 0, 1),
                      (-1, 0, 1, 0, 1), (0, 1, 1, 0, 1), (0, -1, 1, 0, 1), (0, 0, 0, 0, 1), (0, 0, 4, 0, 1),
                      (0, 0, 1, 1, 1), (0, 0, 1, -1, 1), (0, 0, 1, 0, 0), (0, 0, 1, 0, 4), (True, 0, 1, 0, 1),
                      (0, False, 1, 0, 1), (0, 0, True, 0, 1), (0, 0, 1, 0, True), (0, 0, "1", 0, 1),
                      (0, 0, 1, None, 1),
                      (0, 0, (1,), 0, 1)):
            self.assertIs(is_trial(CALM, thing), False, thing)


if __name__ == "__main__":
    unittest.main()
