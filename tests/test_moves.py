"""Moves of owners, against copies walked forward, all LOTS, all rows of origins, all PASTS."""

import random
import unittest
from itertools import combinations, permutations

from hintring import errors
from hintring.families import by_count
from hintring.moves import (breaks, can_lose, dealt, fewest_copies, four_phases, heirs, is_heirs, is_losing_lot,
                            is_mishap_lots, is_move, is_short_lot, least_reads, losing_lot, mishaps, origins,
                            short_lot)
from hintring.misses import can_miss
from hintring.rings import changed, points_in, sections
from tests import oracles
from tests.cases import Case
from tests.makers import random_book, random_family, random_ring, subsets

MOVE = ((0, 1, 2), (0, 1, 3), ((0, 3),))
RING = (50, ((10, 0), (20, 1), (30, 2), (40, 0)))
GREAT = 10 ** 9


def random_lot(rng, many):
    return tuple(sorted(rng.sample(range(many), rng.randrange(1, many + 1))))


def random_move(rng, many=5):
    old, new = random_lot(rng, many), random_lot(rng, many)
    copies = tuple(tuple(rng.sample(range(many), 2)) for _ in range(rng.randrange(0, 7)))
    return old, new, copies


def held_after(move, some):
    """Who holds, behind the copies, what some held ahead of them."""
    held = set(some)
    for one, other in move[2]:
        if one in held:
            held.add(other)
    return held


def origins_by_walk(move, place):
    return tuple(one for one in move[0] if place in held_after(move, (one,)))


def is_missed(move, lot, some):
    return not held_after(move, lot) & set(some)


RNG = random.Random(600)
MOVES = [random_move(RNG) for _ in range(250)] + [random_move(RNG, 4) for _ in range(250)]


class Moves(Case):
    def test_origins(self):
        for move in MOVES:
            for place in move[1]:
                self.assertEqual(origins(move, place), origins_by_walk(move, place))

    def test_what_can_be_lost(self):
        seen = set()
        for move in MOVES:
            for need in range(1, len(move[0]) + 1):
                able = []
                for reads in range(1, len(move[1]) + 1):
                    bad = [some for some in combinations(move[1], reads)
                           if any(is_missed(move, lot, some) for lot in combinations(move[0], need))]
                    self.assertIs(can_lose(move, need, reads), bool(bad))
                    told = losing_lot(move, need, reads)
                    self.assertTrue(told in bad if bad else told is None)
                    for some in combinations(move[1], reads):
                        self.assertIs(is_losing_lot(move, need, reads, some), some in bad)
                    if not bad:
                        able.append(reads)
                self.assertEqual(least_reads(move, need), min(able, default=None))
                seen.add(min(able, default=None))
        self.assertTrue({None, 1, 2, 3} <= seen)

    def test_heirs_by_all_rows_of_unlike_origins(self):
        found = 0
        for move in MOVES:
            rows = [tuple(zip(move[1], row)) for row in permutations(move[0], len(move[1]))]
            good = [row for row in rows if all(one in origins_by_walk(move, place) for place, one in row)]
            told = heirs(move)
            self.assertTrue(told in good if good else told is None)
            for row in rows[:40]:
                self.assertIs(is_heirs(move, row), row in good)
            found += bool(good)
        self.assertTrue(100 < found < 400)

    def test_short_lots(self):
        for move in MOVES:
            short = [some for some in subsets(move[1]) if some
                     and len({one for place in some for one in origins_by_walk(move, place)}) < len(some)]
            told = short_lot(move)
            self.assertTrue(told in short if short else told is None)
            for some in subsets(move[1]):
                self.assertIs(is_short_lot(move, some), some in short)

    def test_heirs_exactly_if_no_lot_is_short(self):
        for move in MOVES:
            self.assertEqual(heirs(move) is None, short_lot(move) is not None)
            size = len(move[0])
            if size == len(move[1]):
                safe = not any(can_lose(move, need, size + 1 - need) for need in range(1, size + 1))
                self.assertEqual(heirs(move) is not None, safe)

    def test_heirs_of_one_move_and_of_the_next(self):
        rng, met = random.Random(601), 0
        for _ in range(600):
            first = random_move(rng, 4)
            second = (first[1], random_lot(rng, 4), tuple(tuple(rng.sample(range(4), 2)) for _ in range(3)))
            one, two = heirs(first), heirs(second)
            if one is not None and two is not None:
                both = tuple((place, dict(one)[middle]) for place, middle in two)
                self.assertIs(is_heirs((first[0], second[1], first[2] + second[2]), both), True)
                met += 1
        self.assertGreater(met, 60)

    def test_it_is_what_a_book_of_the_copies_can_miss(self):
        for move in MOVES[:120]:
            copies = tuple(("copy", 1, one, other) for one, other in move[2])
            for need in range(1, len(move[0]) + 1):
                book = (5, 0, (("put", 0, 1, move[0], by_count(move[0], need)),) + copies)
                for reads in range(1, len(move[1]) + 1):
                    wanted = any(can_miss(book, some, 1) for some in combinations(move[1], reads))
                    self.assertIs(can_lose(move, need, reads), wanted)


class FewestCopies(Case):
    def test_by_all_sets_of_pairs(self):
        rng, seen = random.Random(602), set()
        for _ in range(250):
            old, new = random_lot(rng, 5), random_lot(rng, 5)
            away = tuple(sorted(rng.sample(range(6), rng.randrange(0, 3))))
            need, reads = rng.randrange(1, len(old) + 1), rng.randrange(1, len(new) + 1)
            pairs = [(one, other) for one in old if one not in away for other in new if other not in old]
            sets = [some for size in range(len(pairs) + 1) for some in combinations(pairs, size)]
            good = [some for some in sets if not can_lose((old, new, some), need, reads)]
            wanted = min(good, key=lambda some: (len(some), some)) if good else None
            self.assertEqual(fewest_copies(old, new, away, need, reads), wanted)
            seen.add(wanted and len(wanted))
        self.assertTrue({None, 1, 2} <= seen)

    def test_too_many_begins(self):
        self.assertEqual(len(fewest_copies((0, 1, 2, 3), (4, 5, 6), (), 4, 3)), 1)
        self.assertEqual(fewest_copies((0, 1, 2, 3), (4, 5, 6), (), 1, 1)[:4], ((0, 4), (0, 5), (0, 6), (1, 4)))
        self.assertRaises(errors.TooMany, fewest_copies, (0, 1, 2, 3), (0, 4, 5, 6, 7), (), 4, 3)
        self.assertRaises(errors.TooMany, fewest_copies, (0,), tuple(range(1, 14)), (), 1, 1)
        self.assertIsNotNone(fewest_copies((0, 1, 2, 3), (0, 4, 5, 6, 7), (3,), 4, 3))
        self.assertIsNone(fewest_copies((0, 1), (2, 3), (0, 1), 1, 1))


def random_phases(rng, many, count):
    def family():
        homes = tuple(sorted(rng.sample(range(many), rng.randrange(1, min(many, 3) + 1))))
        return random_family(rng, homes)
    return tuple((family(), family()) for _ in range(count))


class Mishaps(Case):
    def test_by_pasts(self):
        rng, met = random.Random(603), 0
        for _ in range(60):
            book = random_book(rng, rng.choice((2, 3)), rng.randrange(0, 6))
            phases = random_phases(rng, book[0], rng.choice((0, 1, 2, 3)))
            wanted = {}
            for later in range(len(book[2]) + 1):
                for reader, (_, reads) in enumerate(phases):
                    for some in reads:
                        lots = oracles.past_by_roads(book, some, later)
                        for moment in range(later + 1):
                            for writer, (writes, _) in enumerate(phases):
                                for lot in writes:
                                    if not set(lot) & set(lots[moment]):
                                        key = (writer, reader, moment, later)
                                        wanted.setdefault(key, []).append((lot, some))
            self.assertEqual(mishaps(book, phases), sorted(wanted))
            self.check_lots(rng, book, phases, wanted)
            met += len(wanted)
        self.assertGreater(met, 500)

    def check_lots(self, rng, book, phases, wanted):
        end = len(book[2])
        for _ in range(40 if phases else 0):
            key = (rng.randrange(-1, len(phases) + 1), rng.randrange(-1, len(phases) + 1),
                   rng.randrange(-1, end + 2), rng.randrange(-1, end + 2))
            if wanted and rng.random() < 0.6:
                key = rng.choice(sorted(wanted))
            for writes, _ in phases:
                for _, reads in phases:
                    thing = (rng.choice(writes), rng.choice(reads))
                    self.assertIs(is_mishap_lots(book, phases, key, thing), thing in wanted.get(key, []))

    def test_a_mishap_is_a_write_that_can_be_missed(self):
        rng = random.Random(604)
        for _ in range(30):
            book = random_book(rng, 3, 5, kinds=("copy", "copy", "lose", "send", "wait"))
            phases = random_phases(rng, 3, 2)
            told = mishaps(book, phases)
            for writer, (writes, _) in enumerate(phases):
                for moment in range(6):
                    put = ("put", book[2][moment - 1][1] if moment else 0, 1, (0, 1, 2), writes)
                    with_put = (3, 0, book[2][:moment] + (put,) + book[2][moment:])
                    for reader, (_, reads) in enumerate(phases):
                        for later in range(moment, 6):
                            cut = (3, 0, with_put[2][:later + 1])
                            wanted = any(can_miss(cut, some, 1) for some in reads)
                            self.assertEqual((writer, reader, moment, later) in told, wanted)

    def test_four_phases(self):
        for old, new, need, reads in (((0, 1, 2), (0, 1, 3), 2, 2), ((0, 1), (2, 3, 4), 1, 2), ((0,), (0,), 1, 1)):
            phases = four_phases(old, new, need, reads)
            each = oracles.minimal([set(one) | set(two) for one in combinations(old, need)
                                    for two in combinations(new, need)])
            self.assertEqual(phases, ((by_count(old, need), by_count(old, reads)), (each, by_count(old, reads)),
                                      (each, by_count(new, reads)), (by_count(new, need), by_count(new, reads))))
        self.assertEqual(four_phases((0, 1), (2, 3), 0, 0), ((((),), ((),)),) * 4)
        for args in (((0, 1), (0, 1, 2), 3, 1), ((0, 1, 2), (0, 1), 3, 1), ((0, 1), (0, 1, 2), 1, 3),
                     ((0, 1, 2), (0, 1), 1, 3), ((0,), (1,), -1, 1), ((0,), (1,), 1, -1)):
            self.assertRaises(errors.Unfit, four_phases, *args)

    def test_what_four_phases_leave(self):
        rng, met = random.Random(605), 0
        while met < 150:
            old, new = random_lot(rng, 5), random_lot(rng, 5)
            pairs = tuple(tuple(rng.sample(range(5), 2)) for _ in range(rng.randrange(0, 5)))
            if heirs((old, new, pairs)) is not None:
                met += 1
                self.check_phases(old, new, pairs)

    def check_phases(self, old, new, pairs):
        book, end = (5, 0, tuple(("copy", 1, one, other) for one, other in pairs)), len(pairs)
        for need in range(max(1, len(old) + 1 - len(new)), len(new) + 1):
            phases = four_phases(old, new, need, len(old) + 1 - need)
            for writer, reader, moment, later in mishaps(book, phases):
                self.assertNotIn(writer, (1, 2))
                self.assertFalse(writer == 0 and reader in (0, 1))
                self.assertFalse(writer == 3 and reader in (2, 3))
                self.assertFalse(writer == 0 and moment == 0 and reader in (2, 3) and later == end)

    def test_at_the_bounds(self):
        owners, four = tuple(range(8)), by_count(range(8), 4)
        phases = tuple((four, by_count(owners, 3 + k % 3)) for k in range(8))
        book = (8, 0, tuple(("copy", k, k % 8, (k * 3 + 1) % 8) for k in range(24) if k % 8 != (k * 3 + 1) % 8))
        told = mishaps(book, phases)
        self.assertIn((0, 0, 0, 0), told)
        self.assertEqual(told, sorted(set(told)))
        for mishap in told[::5000]:
            lots = [(lot, some) for lot in phases[mishap[0]][0] for some in phases[mishap[1]][1]]
            self.assertTrue(any(is_mishap_lots(book, phases, mishap, pair) for pair in lots))


class Dealt(Case):
    def move_at(self, ring, other, copies, point):
        old, new = oracles.line(ring, point)[:copies], oracles.line(other, point)[:copies]
        pairs = tuple(zip([one for one in old if one not in new], [one for one in new if one not in old]))
        return tuple(sorted(old)), tuple(sorted(new)), pairs

    def test_dealt(self):
        rng = random.Random(606)
        for _ in range(200):
            points = rng.randrange(1, 13)
            ring, other = random_ring(rng, points), random_ring(rng, points)
            copies = rng.randrange(1, 5)
            for point in range(points):
                if ring[1] and other[1]:
                    told = dealt(ring, other, copies, point)
                    self.assertEqual(told, self.move_at(ring, other, copies, point))
                    self.assertIs(is_move(told), True)
                else:
                    self.assertRaises(errors.Unfit, dealt, ring, other, copies, point)

    def test_breaks_section_by_section(self):
        rng, met, broken = random.Random(607), 0, 0
        while met < 400:
            ring, changes = random_ring(rng), self.random_changes(rng)
            copies = rng.randrange(1, 4)
            try:
                final = changed(ring, changes)
                alone = [changed(ring, (change,)) for change in changes]
            except (errors.NoPlace, errors.Unfit) as error:
                self.assertRaises(type(error), breaks, ring, changes, copies)
                continue
            if not ring[1] or not final[1]:
                self.assertRaises(errors.Unfit, breaks, ring, changes, copies)
                continue
            met += 1
            told = breaks(ring, changes, copies)
            bad = {point for point in range(ring[0]) if not self.has_heirs(ring, final, alone, copies, point)}
            rows = [section for section in sections((ring, final)) if section in told]
            self.assertEqual(told, tuple(rows))
            self.assertEqual(sum(points_in(ring[0], section) for section in told), len(bad))
            for section in told:
                self.assertIn(section[1], bad)
            broken += bool(told)
        self.assertGreater(broken, 60)

    def random_changes(self, rng):
        nodes = rng.sample(range(7), rng.randrange(1, 4))
        return tuple((node, () if node < 4 and rng.random() < 0.5 else
                      tuple(sorted(rng.sample(range(12), rng.randrange(1, 3))))) for node in nodes)

    def has_heirs(self, ring, final, alone, copies, point):
        old, new, _ = self.move_at(ring, final, copies, point)
        pairs = tuple(pair for other in alone if other[1] for pair in self.move_at(ring, other, copies, point)[2])
        rows = [zip(new, row) for row in permutations(old, len(new))]
        return any(all(one in origins_by_walk((old, new, pairs), place) for place, one in row) for row in rows)

    def test_refusals(self):
        other = (50, ((10, 0), (20, 1), (25, 3)))
        for point in (-1, 50, GREAT):
            self.refused(errors.NoPoint, point, dealt, RING, (7, ()), 2, point)
        self.assertRaises(errors.Unfit, dealt, RING, (51, other[1]), 2, 7)
        self.assertRaises(errors.Unfit, dealt, RING, (50, ()), 2, 7)
        self.assertRaises(errors.Unfit, dealt, (50, ()), other, 2, 7)
        self.refused(errors.NoPlace, 5, breaks, RING, ((5, ()), (3, (20,))), 2)
        self.assertRaises(errors.Unfit, breaks, RING, ((3, (20,)), (1, (25,))), 2)
        # All together 3 comes to where 1 has gone from; by itself it meets it there.
        self.assertRaises(errors.Unfit, breaks, RING, ((1, ()), (3, (20,))), 2)
        self.refused(errors.NoPlace, 5, breaks, (50, ()), ((5, ()),), 2)
        self.assertRaises(errors.Unfit, breaks, (50, ()), ((5, (3,)),), 2)
        self.assertRaises(errors.Unfit, breaks, (50, ((3, 5),)), ((5, ()),), 2)
        self.assertRaises(errors.Unfit, breaks, (50, ()), (), 2)
        self.assertEqual(breaks(RING, (), 2), ())

    def test_a_change_that_leaves_no_spots(self):
        ring = (10, ((3, 0),))
        self.assertEqual(breaks(ring, ((0, ()), (1, (7,))), 1), ((7, 3),))
        self.assertEqual(breaks(ring, ((1, (7,)),), 1), ())


class Edges(Case):
    def test_its_own_origin(self):
        self.assertEqual([origins(MOVE, place) for place in MOVE[1]], [(0,), (1,), (0,)])
        self.assertEqual(origins(((0, 1), (0,), ((1, 0),)), 0), (0, 1))
        self.assertEqual(origins(((0,), (2,), ((0, 1), (1, 2))), 2), (0,))
        self.assertEqual(origins(((0,), (2,), ((1, 2), (0, 1))), 2), ())
        self.assertEqual(origins(((0, 1), (2,), ()), 2), ())

    def test_nothing_in_common_and_no_copies(self):
        move = ((0, 1), (2, 3), ())
        self.assertEqual((can_lose(move, 2, 2), losing_lot(move, 2, 2)), (True, (2, 3)))
        self.assertEqual((heirs(move), short_lot(move), least_reads(move, 1)), (None, (2,), None))
        same = ((0, 1), (0, 1), ())
        self.assertEqual((heirs(same), short_lot(same)), (((0, 0), (1, 1)), None))
        self.assertEqual([least_reads(same, need) for need in (1, 2)], [2, 1])

    def test_new_greater_and_smaller_than_old(self):
        grown = ((0,), (0, 1), ((0, 1),))
        self.assertEqual((heirs(grown), short_lot(grown), can_lose(grown, 1, 1)), (None, (0, 1), False))
        shrunk = ((0, 1, 2), (0,), ())
        self.assertEqual((heirs(shrunk), short_lot(shrunk)), (((0, 0),), None))
        self.assertEqual([can_lose(shrunk, need, 1) for need in (1, 2, 3)], [True, True, False])
        self.assertIsNone(least_reads(shrunk, 2))

    def test_refusals(self):
        for place in (2, -1, GREAT):
            self.refused(errors.NoPlace, place, origins, MOVE, place)


class Things(Case):
    def test_is_move(self):
        for thing in (MOVE, ((0,), (0,), ()), ((10 ** 30,), (5,), ((7, 10 ** 30), (7, 9)))):
            self.assertIs(is_move(thing), True)
        for thing in (None, 0, True, "", "abc", (), ((0,), (1,)), [(0,), (1,), ()], ((0,), (1,), ()) + (0,),
                      ((), (1,), ()), ((0,), (), ()), ([0], (1,), ()), ((0,), [1], ()), ((0,), (1,), []),
                      ((0, 0), (1,), ()), ((1, 0), (1,), ()), ((True,), (1,), ()), ((-1,), (1,), ()), (0, (1,), ()),
                      ((0,), (1,), ((0,),)), ((0,), (1,), ((0, 1, 2),)), ((0,), (1,), ([0, 1],)),
                      ((0,), (1,), ((0, 0),)), ((0,), (1,), ((0, True),)), ((0,), (1,), ((0, -1),)),
                      ((0,), (1,), (0, 1)), ((0,), (1,), None), (("0",), (1,), ()), (None, (1,), ()),
                      ((0,), (1,), (("0", 1),)), ("01", (1,), ()), ((0,), (1,), ((-1, 0),))):
            self.assertIs(is_move(thing), False, thing)

    def test_is_heirs(self):
        move = ((0, 1, 2), (0, 1, 3), ((2, 3),))
        self.assertIs(is_heirs(move, ((0, 0), (1, 1), (3, 2))), True)
        for thing in (None, 0, True, "abc", (), [(0, 0), (1, 1), (3, 2)], ([0, 0], (1, 1), (3, 2)),
                      ((0, 0), (1, 1)), ((0, 0), (1, 1), (3, 2), (3, 2)), ((1, 1), (0, 0), (3, 2)),
                      ((0, 0), (1, 1), (3, 3)), ((0, 0), (1, 1), (3, 1)), ((0, 0), (1, 0), (3, 2)),
                      ((False, 0), (1, 1), (3, 2)), ((0, False), (1, 1), (3, 2)), ((0, 0), (1, True), (3, 2)),
                      ((0, 0), (1, 1), (3,)), ((0, 0), (1, 1), (3, 2, 2)), ((0, 0), (1, 1), None),
                      ((0, 0), (1, 1), (10 ** 30, 2)), ((0, 0), (1, 1), (3, 10 ** 30)), ((0, "0"), (1, 1), (3, 2)),
                      ((0, 0), (1, 1), (3, -1))):
            self.assertIs(is_heirs(move, thing), False, thing)

    def test_no_origin_twice(self):
        self.assertIs(is_heirs(MOVE, ((0, 0), (1, 1), (3, 0))), False)
        self.assertIs(is_heirs(((0, 1), (0, 2), ((0, 2), (1, 2))), ((0, 0), (2, 0))), False)
        self.assertIs(is_heirs(((0, 1), (0, 2), ((0, 2), (1, 2))), ((0, 0), (2, 1))), True)

    def test_is_losing_lot_and_is_short_lot(self):
        self.assertIs(is_losing_lot(MOVE, 2, 2, (0, 3)), True)
        self.assertIs(is_short_lot(MOVE, (0, 3)), True)
        for thing in (None, 0, True, "03", (), [0, 3], (0,), (3, 0), (0, 0), (0, 1), (0, 2), (False, 3), (0, "3"),
                      (0, None), (0, 10 ** 30), (-1, 0), ((0,), (3,))):
            self.assertIs(is_losing_lot(MOVE, 2, 2, thing), False, thing)
            self.assertIs(is_short_lot(MOVE, thing), False, thing)
        self.assertIs(is_losing_lot(MOVE, 2, 1, (0,)), True)
        self.assertIs(is_losing_lot(MOVE, 2, 2, (0, 1, 3)), False)
        self.assertIs(is_short_lot(MOVE, (0, 1, 3)), True)

    def test_is_mishap_lots(self):
        book, phases = (4, 0, (("copy", 1, 2, 3),)), four_phases((0, 1, 2), (0, 1, 3), 2, 2)
        good = ((1, 2), (0, 3))
        self.assertIs(is_mishap_lots(book, phases, (0, 2, 1, 1), good), True)
        for thing in (None, 0, True, "ab", (), [(1, 2), (0, 3)], ([1, 2], (0, 3)), ((1, 2), [0, 3]), ((1, 2),),
                      ((1, 2), (0, 3), ()), ((0, 3), (1, 2)), ((1, 2), (0, 1)), ((1, 2), (0,)), ((True, 2), (0, 3)),
                      ((1, 2), (False, 3)), ((2, 1), (0, 3)), ((1, 2), None), (1, 2), ((1, 2), (0, 2)),
                      ((1, 2), (0, 10 ** 30))):
            self.assertIs(is_mishap_lots(book, phases, (0, 2, 1, 1), thing), False, thing)
        for mishap in ((0, 2, 1, 0), (0, 2, 0, 1), (4, 2, 1, 1), (0, 4, 1, 1), (-4, 2, 1, 1), (0, -2, 1, 1),
                       (0, 2, -1, 1), (0, 2, 1, 2), (0, 2, 2, 2), (2, 2, 1, 1), (0, 0, 1, 1)):
            self.assertIs(is_mishap_lots(book, phases, mishap, good), False, mishap)


if __name__ == "__main__":
    unittest.main()
