"""What reads can miss, against all WORLDS of many small BOOKS."""

import random
import unittest

from hintring import errors
from hintring.books import last, versions
from hintring.families import by_count
from hintring.misses import (can_miss, harmless_lots, held_version, hold_paper, least_asked, least_need, miss_world,
                             missed_versions, most_that_miss, worst_lot)
from hintring.worlds import is_world
from tests import oracles
from tests.cases import Case
from tests.makers import random_book, small_books, subsets, world_count

EMPTY = (2, 0, ())
TWO_OF = ((0, 1), (0, 2), (1, 2))
PLAIN = (3, 2, (("put", 0, 1, (0, 1, 2), TWO_OF),))
NOBODY = (2, 0, (("put", 0, 1, (0, 1), ((),)), ("strike", 0, 2, (0, 1), ((0,), (1,)))))
GREAT = 10 ** 9


def misses(book, some, version):
    return any(oracles.read(cells, some) < version for cells in oracles.last_cells(book))


def asked_versions(book):
    return (1,) + versions(book) + tuple(version + 1 for version in versions(book)) + (GREAT,)


class AllWorlds(Case):
    BOOKS = small_books(80, 100, 3000) + small_books(85, 120, 3000, least_worlds=60)

    def test_can_miss(self):
        for book in self.BOOKS:
            for some in subsets(range(book[0])):
                for version in asked_versions(book):
                    self.assertIs(can_miss(book, some, version), misses(book, some, version))

    def test_held_version_is_the_least_that_can_be_told(self):
        for book in self.BOOKS:
            for some in subsets(range(book[0])):
                told = min(oracles.read(cells, some) for cells in oracles.last_cells(book))
                self.assertEqual(held_version(book, some), told)
                held = [version for version in versions(book) if not can_miss(book, some, version)]
                self.assertEqual(told, max(held + [0]))

    def test_miss_world(self):
        for book in self.BOOKS:
            for some in subsets(range(book[0])):
                for version in asked_versions(book):
                    world = miss_world(book, some, version)
                    if misses(book, some, version):
                        self.assertTrue(is_world(book, world))
                        self.assertLess(oracles.read(oracles.play(book, world)[0][-1], some), version)
                        self.assertEqual(world, self.named_world(book, some, version))
                    else:
                        self.assertIsNone(world)

    def named_world(self, book, some, version):
        lots, world = oracles.past_by_roads(book, some, last(book)), []
        for number, deed in enumerate(book[2]):
            if oracles.is_written(deed):
                free = [lot for lot in deed[4] if deed[2] < version or not set(lot) & set(lots[number + 1])]
                world.append((free[0], ()))
            else:
                world.append(())
        return tuple(world)

    def test_hold_paper(self):
        for book in self.BOOKS:
            for some in subsets(range(book[0])):
                lots = oracles.past_by_roads(book, some, last(book))
                for version in asked_versions(book):
                    paper = hold_paper(book, some, version)
                    full = [number for number, deed in enumerate(book[2])
                            if oracles.is_written(deed) and deed[2] >= version
                            and all(set(lot) & set(lots[number + 1]) for lot in deed[4])]
                    if misses(book, some, version):
                        self.assertIsNone(paper)
                    else:
                        self.assertEqual(paper[0], full[0])
                        self.check_roads(book, lots, paper)

    def check_roads(self, book, lots, paper):
        number, roads = paper
        homes = [place for place in book[2][number][3] if place in lots[number + 1]]
        self.assertEqual([one[0] for one in roads], homes)
        for one in roads:
            self.assertIn(one, oracles.all_roads(book, number + 1, one[0], last(book)))
            self.assertIn(one[-1], lots[-1])
            for k, (now, behind) in enumerate(zip(one, one[1:])):
                self.assertTrue(now == behind or now not in lots[number + k + 2])

    def test_lots_of_owners(self):
        for book in self.BOOKS:
            for owners in ((), (0,), tuple(range(book[0])), tuple(range(1, book[0]))):
                for version in asked_versions(book)[:3]:
                    self.check_owners(book, owners, version)

    def check_owners(self, book, owners, version):
        size = len(owners)
        bad = [[some for some in oracles.lots_of_size(owners, k) if misses(book, some, version)]
               for k in range(size + 2)]
        self.assertEqual(most_that_miss(book, owners, version), max(k for k in range(size + 1) if bad[k]))
        for asked in range(size + 2):
            self.assertEqual(worst_lot(book, owners, asked, version), min(bad[asked]) if bad[asked] else None)
        safe = [k for k in range(size + 1) if not bad[k]]
        self.assertEqual(least_asked(book, owners, version), safe[0] if safe else None)
        held = [some for some in subsets(owners) if not misses(book, some, version)]
        self.assertEqual(harmless_lots(book, owners, version), oracles.minimal(held))

    def test_missed_versions(self):
        for book in self.BOOKS:
            for owners in ((), (0,), tuple(range(book[0]))):
                for asked in range(len(owners) + 2):
                    missed = [version for version in versions(book)
                              if any(misses(book, some, version) for some in oracles.lots_of_size(owners, asked))]
                    self.assertEqual(missed_versions(book, owners, asked), tuple(missed))

    def test_least_need(self):
        for book in self.BOOKS[:70]:
            for number, deed in enumerate(book[2]):
                if oracles.is_written(deed) and deed[3]:
                    for owners in ((0,), tuple(range(book[0]))):
                        for asked in range(len(owners) + 2):
                            wanted = self.need_by_worlds(book, number, owners, asked)
                            self.assertEqual(least_need(book, deed[2], owners, asked), wanted)

    def need_by_worlds(self, book, number, owners, asked):
        deed = book[2][number]
        for need in range(1, len(deed[3]) + 1):
            fresh = deed[:4] + (by_count(deed[3], need),)
            changed = book[:2] + (book[2][:number] + (fresh,) + book[2][number + 1:],)
            if world_count(changed) > 5000:
                changed = (book[0], 0) + changed[2:]
            if not any(misses(changed, some, deed[2]) for some in oracles.lots_of_size(owners, asked)):
                return need
        return None


class LongerBooks(unittest.TestCase):
    def test_against_all_states(self):
        rng = random.Random(81)
        for _ in range(60):
            book = random_book(rng, rng.randrange(2, 5), 8)
            cells = {one for one, _ in oracles.all_states(book)[-1]}
            for some in subsets(range(book[0])):
                least = min(oracles.read(one, some) for one in cells)
                self.assertEqual(held_version(book, some), least)
                for version in versions(book):
                    self.assertIs(can_miss(book, some, version), least < version)

    def test_a_part_of_who_can_miss_can_miss(self):
        rng = random.Random(82)
        for _ in range(60):
            book = random_book(rng, 5, 16)
            for version in versions(book):
                bad = {some for some in subsets(range(5)) if can_miss(book, some, version)}
                for some in bad:
                    self.assertTrue(all(some[:at] + some[at + 1:] in bad for at in range(len(some))))

    def test_at_the_bounds(self):
        owners = tuple(range(8))
        put = lambda k: ("put", k, k + 1, owners, by_count(owners, 4))
        book = (8, GREAT, tuple(put(k) for k in range(23)) + (("copy", 30, 7, 0),))
        self.assertEqual(most_that_miss(book, owners, 1), 4)
        self.assertEqual(worst_lot(book, owners, 4, 1), (0, 1, 2, 7))
        self.assertEqual(worst_lot(book, owners, 4, 24), (0, 1, 2, 3))
        self.assertEqual(least_asked(book, owners, 23), 5)
        self.assertEqual(least_need(book, 23, owners, 4), 5)
        self.assertEqual(missed_versions(book, owners, 4), tuple(range(1, 24)))
        self.assertEqual(missed_versions(book, owners, 5), ())
        self.assertEqual(held_version(book, (0, 1, 2, 3)), 23)
        self.assertEqual(held_version(book, (1, 2, 3, 4)), 0)
        self.assertEqual(hold_paper(book, (0, 1, 2, 3), 2)[0], 1)
        short = [some for some in by_count(owners, 4) if 0 in some and 7 not in some]
        rest = [some for some in by_count(owners, 5) if not (0 in some and 7 not in some)
                and not any(set(one) < set(some) for one in short)]
        self.assertEqual(harmless_lots(book, owners, 5), tuple(sorted(short + rest)))


class Edges(Case):
    def test_no_deeds_no_writes(self):
        for book in (EMPTY, (2, 5, (("copy", 0, 0, 1), ("send", 0, 1, 0), ("lose", 1, 0)))):
            for some in subsets((0, 1)):
                self.assertIs(can_miss(book, some, 1), True)
                self.assertIsNone(hold_paper(book, some, 1))
                self.assertEqual(held_version(book, some), 0)
                self.assertEqual(miss_world(book, some, 7), ((),) * last(book))
            self.assertEqual(most_that_miss(book, (0, 1), 1), 2)
            self.assertEqual(worst_lot(book, (0, 1), 2, 1), (0, 1))
            self.assertIsNone(least_asked(book, (0, 1), 1))
            self.assertEqual(harmless_lots(book, (0, 1), 1), ())
            self.assertEqual(missed_versions(book, (0, 1), 0), ())

    def test_nobody_and_nobody_asked(self):
        self.assertEqual([can_miss(NOBODY, (0, 1), version) for version in (1, 2, 3)], [False, False, True])
        self.assertEqual(miss_world(NOBODY, (), 1), (((), ()), ((0,), ())))
        self.assertEqual(hold_paper(NOBODY, (0, 1), 1), (1, ((0,), (1,))))
        self.assertEqual(held_version(NOBODY, (0,)), 0)
        self.assertEqual((most_that_miss(PLAIN, (), 1), worst_lot(PLAIN, (), 0, 1)), (0, ()))
        self.assertIsNone(worst_lot(PLAIN, (), 1, 1))
        self.assertIsNone(least_asked(PLAIN, (), 1))
        self.assertEqual((harmless_lots(PLAIN, (), 1), missed_versions(PLAIN, (), 0)), ((), (1,)))
        self.assertEqual(missed_versions(PLAIN, (0, 1), GREAT), ())
        self.assertIsNone(worst_lot(PLAIN, (0, 1), GREAT, 1))

    def test_least_need_edges(self):
        self.assertEqual(least_need(PLAIN, 1, (0, 1), 3), 1)
        self.assertEqual(least_need(PLAIN, 1, (), 1), 1)
        self.assertIsNone(least_need(PLAIN, 1, (), 0))
        self.assertEqual(least_need(PLAIN, 1, (0, 1, 2), 3), 1)
        self.assertEqual(least_need(NOBODY, 1, (0, 1), 2), 1)
        homeless = (2, 0, (("put", 0, 1, (), ((),)),))
        self.assertIsNone(least_need(homeless, 1, (0, 1), 1))
        self.assertEqual(least_need(homeless, 1, (0, 1), 3), 1)

    def test_refusals(self):
        for action in (can_miss, miss_world, hold_paper, most_that_miss, least_asked, harmless_lots):
            self.refused(errors.NoPlace, 3, action, PLAIN, (0, 3, 4), 0)
            self.refused(errors.NoPlace, -1, action, PLAIN, (-1, 0), 1)
            self.refused(errors.NoVersion, 0, action, PLAIN, (0,), 0)
            self.refused(errors.NoVersion, -4, action, PLAIN, (), -4)
        self.refused(errors.NoPlace, 3, held_version, PLAIN, (3,))
        self.refused(errors.NoPlace, 3, missed_versions, PLAIN, (3,), 1)
        self.refused(errors.NoPlace, 3, worst_lot, PLAIN, (3,), 1, 0)
        self.refused(errors.NoVersion, 0, worst_lot, PLAIN, (2,), 1, 0)
        self.refused(errors.NoPlace, 3, least_need, PLAIN, 0, (3,), 1)
        for version in (0, -1, 2, GREAT):
            self.refused(errors.NoVersion, version, least_need, PLAIN, version, (0, 1, 2), 1)


if __name__ == "__main__":
    unittest.main()
