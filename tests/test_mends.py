"""Mends, against walks over PASTS, all LOTS, and all rows of up to two COPIES."""

import random
import unittest
from itertools import permutations, product

from hintring import errors
from hintring.books import is_book, last, versions
from hintring.families import by_count
from hintring.losses import least_losses
from hintring.mends import (blamed, chain, cheapest_mend, enough_at, helpers, mended, mends_it, safe_from, worth)
from tests import oracles
from tests.cases import Case
from tests.makers import lots_below, random_book, small_books, subsets
from tests.oracles import misses

TWO_OF = ((0, 1), (0, 2), (1, 2))
STAYS = (4, 2, (("put", 0, 1, (0, 1, 2), TWO_OF), ("copy", 4, 0, 3)))
LEAVES = (4, 2, (("put", 0, 1, (0, 1, 2), TWO_OF), ("copy", 4, 2, 3)))
ASKED = ((0, 1), (0, 3), (1, 3))
EMPTY = (3, 0, ())
GREAT = 10 ** 9
KINDS = ("put", "put", "strike", "copy", "copy", "copy", "lose", "send", "wait")


def any_misses(book, lots, version):
    return any(misses(book, lot, version) for lot in lots)


def put_in(book, moment, rows):
    """The BOOK with these DEEDS put in at this MOMENT, told without their ticks."""
    tick = book[2][moment - 1][1] if moment else 0
    fresh = tuple(("copy", tick, one, other) for one, other in rows)
    return book[0], book[1], book[2][:moment] + fresh + book[2][moment:]


def without(book, number):
    return book[0], book[1], book[2][:number] + book[2][number + 1:]


def first_deeds(book, moment):
    return book[0], book[1], book[2][:moment]


def last_cells(book):
    """All CELLS behind all, told MOMENT by MOMENT."""
    return {cells for cells, _ in oracles.all_states(book)[-1]}


def some_version(rng, book):
    return rng.choice((1,) + versions(book) * 2 + (max(versions(book) + (0,)) + 1,))


def random_cases(seed, count, many=(1, 2, 3, 3, 4), deeds=(0, 1, 2, 3, 4, 5, 6)):
    """So many triples (book, LOTS that may be asked, version)."""
    rng, found = random.Random(seed), []
    while len(found) < count:
        book = random_book(rng, rng.choice(many), rng.choice(deeds), kinds=KINDS)
        lots = oracles.minimal(rng.sample(lots_below(book[0]), rng.randrange(1, min(5, 2 ** book[0]))))
        found.append((book, lots, some_version(rng, book)))
    return found


def handed_cases(seed, count):
    """The same of BOOKS with one write, mostly of a majority, and then copies and losses."""
    rng, found = random.Random(seed), []
    while len(found) < count:
        many = rng.choice((2, 3, 4))
        _, life, deeds = random_book(rng, many, rng.randrange(1, 7), kinds=("copy", "copy", "copy", "lose", "wait"))
        homes = tuple(sorted(rng.sample(range(many), rng.choice((1, 2, min(3, many))))))
        put = ("put", 0, 1, homes, by_count(homes, len(homes) // 2 + 1))
        lots = oracles.minimal(rng.sample(lots_below(many)[1:], 3))
        found.append(((many, life, (put,) + deeds), lots, 1))
    return found


class Chains(Case):
    def test_chain(self):
        self.assertEqual([chain(some) for some in ((), (3,), (2, 5), (0, 2, 3))],
                         [(), (), ((2, 5), (5, 2)), ((0, 2), (2, 3), (3, 2), (2, 0))])
        for some in lots_below(6):
            pairs = list(zip(some, some[1:]))
            self.assertEqual(chain(some), tuple(pairs + [(other, one) for one, other in reversed(pairs)]))

    def test_all_come_to_hold_the_latest(self):
        for some in lots_below(4):
            for order in permutations(range(1, 5)):
                cells = list(order)
                for one, other in chain(some):
                    cells[other] = max(cells[one], cells[other])
                latest = max([order[place] for place in some], default=0)
                for place in range(4):
                    self.assertEqual(cells[place], latest if place in some else order[place])

    def test_mended(self):
        for book, lots, _ in random_cases(900, 80):
            for moment in range(last(book) + 1):
                for some in lots + (tuple(range(book[0])), ()):
                    told = mended(book, moment, some)
                    self.assertEqual(told, put_in(book, moment, chain(some)))
                    self.assertTrue(is_book(told))
        late = (2, 1, (("wait", 7), ("wait", 9)))
        self.assertEqual([mended(late, moment, (0, 1))[2][moment][1] for moment in range(3)], [0, 7, 9])

    def test_each_place_can_then_miss_what_all_could(self):
        for book in small_books(901, 60, 300, deeds=(1, 2, 3)):
            for moment in range(last(book) + 1):
                ahead = first_deeds(book, moment)
                before = last_cells(ahead)
                for some in lots_below(book[0]):
                    cells = last_cells(mended(ahead, moment, some))
                    for place in some:
                        for version in range(1, 8):
                            now = any(one[place] < version for one in cells)
                            self.assertEqual(now, any(oracles.read(one, some) < version for one in before))


class Helpers(Case):
    def test_helpers_by_all_lots(self):
        sizes = set()
        for book, lots, version in random_cases(902, 250):
            for some in lots + ((),):
                others = [place for place in range(book[0]) if place not in some]
                good = [lot for lot in subsets(others) if not misses(book, some + lot, version)]
                told = helpers(book, some, version)
                self.assertEqual(told, list(oracles.minimal(good)) if good else [])
                sizes |= {len(lot) for lot in told} | ({-1} if not told else set())
        self.assertTrue({-1, 0, 1, 2} <= sizes)

    def test_against_all_worlds(self):
        for book in small_books(903, 80, 300, deeds=(1, 2, 3, 4)):
            cells = oracles.last_cells(book)
            for some in lots_below(book[0]):
                for version in (1,) + versions(book):
                    others = [place for place in range(book[0]) if place not in some]
                    good = [lot for lot in subsets(others)
                            if all(oracles.read(one, some + lot) >= version for one in cells)]
                    self.assertEqual(helpers(book, some, version), list(oracles.minimal(good)) if good else [])

    def test_edges(self):
        self.assertEqual(helpers(EMPTY, (0,), 1), [])
        self.assertEqual(helpers(STAYS, (0, 3), 2), [])
        self.assertEqual(helpers(STAYS, (), 1), [(0, 1), (0, 2), (1, 2), (1, 3), (2, 3)])
        nobody = (2, 0, (("put", 0, 1, (0, 1), ((),)),))
        self.assertEqual(helpers(nobody, (0, 1), 1), [])
        first = helpers(STAYS, (0, 3), 1)
        first.append(7)
        self.assertEqual(helpers(STAYS, (0, 3), 1), [(1,), (2,)])


class Cheapest(Case):
    CASES = random_cases(904, 160)

    def shortest(self, book, lots, version):
        """The least number of COPIES, up to two, by all rows; None if they are not enough."""
        pairs = list(permutations(range(book[0]), 2))
        for size in range(3):
            if any(not any_misses(put_in(book, last(book), row), lots, version)
                   for row in product(pairs, repeat=size)):
                return size
        return None

    def test_cheapest_by_all_rows(self):
        seen = []
        for book, lots, version in self.CASES:
            wanted = self.shortest(book, lots, version)
            seen.append(wanted)
            for most in range(3):
                told = cheapest_mend(book, lots, version, most)
                if wanted is None or wanted > most:
                    self.assertIsNone(told)
                else:
                    self.assertIsInstance(told, tuple)
                    self.assertEqual(len(told), wanted)
                    self.assertFalse(any_misses(put_in(book, last(book), told), lots, version))
                    self.assertIs(mends_it(book, lots, version, told), True)
                    self.assertEqual(cheapest_mend(book, lots, version, most), told)
        self.assertTrue(min(seen.count(one) for one in (None, 0, 1, 2)) >= 4, seen)

    def test_mends_it(self):
        rng, seen = random.Random(905), []
        for book, lots, version in self.CASES:
            pairs = list(permutations(range(book[0]), 2))
            for _ in range(8):
                row = tuple(rng.choice(pairs) for _ in range(rng.randrange(0, 6))) if pairs else ()
                wanted = not any_misses(put_in(book, last(book), row), lots, version)
                self.assertIs(mends_it(book, lots, version, row), wanted)
                seen.append(wanted)
        self.assertTrue(seen.count(True) > 150 and seen.count(False) > 150)

    def test_the_order_of_copies_counts(self):
        book = (4, 0, (("put", 0, 1, (0,), ((0,),)),))
        self.assertIs(mends_it(book, ((3,),), 1, ((0, 1), (1, 3))), True)
        self.assertIs(mends_it(book, ((3,),), 1, ((1, 3), (0, 1))), False)
        self.assertEqual(cheapest_mend(book, ((1,), (2,)), 1, 2) in (((0, 1), (0, 2)), ((0, 2), (0, 1)),
                                                                     ((0, 1), (1, 2)), ((0, 2), (2, 1))), True)
        self.assertIsNone(cheapest_mend(book, ((1,), (2,), (3,)), 1, 2))

    def test_as_many_copies_as_a_helper_has_places(self):
        for book, _, version in self.CASES[:90]:
            for some in lots_below(book[0])[1:]:
                told = helpers(book, some, version)
                least = min([len(lot) for lot in told], default=None)
                row = cheapest_mend(book, (some,), version, 2)
                if least is None or least > 2:
                    self.assertIsNone(row)
                else:
                    self.assertEqual(len(row), least)

    def test_24_copies_and_25(self):
        row = ((1, 0),) * 24
        self.assertIs(mends_it(STAYS, ASKED, 1, row), True)
        self.assertIs(mends_it(STAYS, ASKED, 1, row + ((1, 0),)), False)
        self.assertIs(mends_it(LEAVES, ASKED, 1, ((3, 2),) * 24), True)
        self.assertIs(mends_it(LEAVES, ASKED, 1, ((3, 2),) * 25), False)

    def test_no_rows_of_copies(self):
        self.assertIs(mends_it(STAYS, ASKED, 1, ((1, 0),)), True)
        for thing in (None, True, 0, "", "abc", [], [(1, 0)], ([1, 0],), ((1, 0), None), ((1,),), ((1, 0, 0),),
                      ((True, 0),), ((1, False),), ((1, 1),), ((-1, 0),), ((1, -3),), ((4, 0),), ((1, 4),),
                      ((10 ** 30, 0),), (("1", "0"),), (1, 0), ("10",), ((None, 0),), (((1, 0),),),
                      ((1, 0), (0, 4)), ((1, 0), (4, 0)), ((1, 0), (2, 2)), ((1, 0), (-1, 2)), ((1, 0), (2, True)),
                      ((1, 0), (2, "3"))):
            self.assertIs(mends_it(STAYS, ASKED, 1, thing), False, thing)
        for thing in ([], [()], None, "", 0):
            self.assertIs(mends_it(LEAVES, ASKED, 1, thing), False, thing)
        self.assertIs(mends_it(LEAVES, ASKED, 1, ()), True)

    def test_a_lot_of_nobody(self):
        self.assertIsNone(cheapest_mend(STAYS, ((),), 1, 2))
        self.assertIs(mends_it(STAYS, ((),), 1, ((1, 0),)), False)
        self.assertEqual(enough_at(STAYS, (0, 1), ((),), 1), ())
        self.assertIsNone(safe_from(STAYS, ((),), 1))


class Moments(Case):
    CASES = random_cases(906, 260, deeds=(0, 1, 2, 4, 6, 8))

    def test_enough_at(self):
        seen = set()
        for book, lots, version in self.CASES:
            for some in lots_below(book[0])[-3:]:
                wanted = tuple(k for k in range(last(book) + 1)
                               if not any_misses(put_in(book, k, chain(some)), lots, version))
                self.assertEqual(enough_at(book, some, lots, version), wanted)
                seen.add((wanted == (), len(wanted) > last(book)))
        self.assertEqual(seen, {(True, False), (False, False), (False, True)})

    def test_safe_from(self):
        seen = set()
        for book, lots, version in self.CASES:
            bad = [k for k in range(last(book) + 1) if any_misses(first_deeds(book, k), lots, version)]
            wanted = None if bad[-1] == last(book) else bad[-1] + 1
            self.assertEqual(safe_from(book, lots, version), wanted)
            seen.add(wanted)
        self.assertTrue({None, 1, 2, 3} <= seen)

    def test_it_may_be_missed_again(self):
        put = ("put", 0, 1, (0, 1), ((0, 1),))
        book = (2, 0, (put, ("lose", 0, 0), ("copy", 0, 1, 0), ("wait", 0)))
        self.assertEqual((safe_from(book, ((0,),), 1), safe_from(book, ((1,),), 1)), (3, 1))
        self.assertIsNone(safe_from(book[:2] + (book[2] + (("lose", 0, 0),),), ((0,),), 1))
        self.assertIsNone(safe_from(EMPTY, ((0,),), 1))


class Blame(Case):
    CASES = random_cases(907, 120, deeds=(1, 2, 3, 4, 6, 8)) + handed_cases(909, 160)

    def test_blamed(self):
        seen = set()
        for book, lots, version in self.CASES:
            for some in lots:
                now = misses(book, some, version)
                wanted = tuple(k for k, deed in enumerate(book[2]) if deed[0] in ("copy", "lose")
                               and misses(without(book, k), some, version) != now)
                self.assertEqual(blamed(book, some, version), wanted)
                seen |= {book[2][k][0] for k in wanted}
        self.assertEqual(seen, {"copy", "lose"})

    def test_worth(self):
        seen = set()
        for book, lots, version in self.CASES:
            for number, deed in enumerate(book[2]):
                if deed[0] == "copy":
                    for some in lots:
                        wanted = least_losses(book, some, version) - least_losses(without(book, number), some, version)
                        self.assertEqual(worth(book, some, version, number), wanted)
                        seen.add(wanted)
                else:
                    self.assertRaises(errors.CanNot, worth, book, (), version, number)
        self.assertTrue({0, 1} <= seen)

    def test_a_second_way_is_worth_a_loss(self):
        book = (3, 0, (("put", 0, 1, (0,), ((0,),)), ("copy", 0, 0, 1), ("copy", 0, 0, 1)))
        self.assertEqual([worth(book, (0, 1), 1, number) for number in (1, 2)], [0, 0])
        self.assertEqual(worth(book, (1,), 1, 1), 0)
        self.assertEqual(worth(without(book, 2), (1,), 1, 1), 1)

    def test_copies_put_in_never_harm_and_losses_never_help(self):
        rng = random.Random(908)
        for book, lots, version in self.CASES:
            if book[0] > 1:
                moment = rng.randrange(last(book) + 1)
                pair = tuple(rng.sample(range(book[0]), 2))
                copied = put_in(book, moment, (pair,))
                tick = copied[2][moment][1]
                lost = book[:2] + (book[2][:moment] + (("lose", tick, pair[0]),) + book[2][moment:],)
                for some in lots:
                    self.assertLessEqual(misses(copied, some, version), misses(book, some, version))
                    self.assertLessEqual(misses(book, some, version), misses(lost, some, version))
                    if moment in blamed(copied, some, version):
                        self.assertFalse(misses(copied, some, version))
                    if moment in blamed(lost, some, version):
                        self.assertTrue(misses(lost, some, version))


class Edges(Case):
    def test_versions_that_the_book_does_not_have(self):
        self.assertEqual(helpers(STAYS, (0,), GREAT), [])
        self.assertEqual((blamed(STAYS, (0, 3), 7), worth(STAYS, (0, 3), 7, 1)), ((), 0))
        self.assertEqual((enough_at(STAYS, (0, 3), ASKED, 7), safe_from(STAYS, ASKED, 7)), ((), None))
        self.assertIsNone(cheapest_mend(STAYS, ASKED, 7, 2))
        spread = (4, 2, (("put", 0, 5, (0, 1, 2), TWO_OF), ("copy", 4, 2, 3)))
        self.assertEqual((blamed(spread, (0, 3), 3), safe_from(spread, ((0, 3),), 3)), ((1,), 2))

    def test_refusals(self):
        self.refused(errors.NoPlace, 4, mended, STAYS, 9, (0, 4))
        self.refused(errors.NoMoment, 3, mended, STAYS, 3, (0, 1))
        self.refused(errors.NoMoment, -1, mended, STAYS, -1, (0, 1))
        for action, args in ((helpers, ()), (blamed, ())):
            self.refused(errors.NoPlace, 4, action, STAYS, (4, 5), 0, *args)
            self.refused(errors.NoVersion, 0, action, STAYS, (0,), 0, *args)
        self.refused(errors.NoVersion, 0, cheapest_mend, STAYS, ASKED, 0, 1)
        self.refused(errors.NoVersion, -3, mends_it, STAYS, ASKED, -3, None)
        self.refused(errors.NoPlace, 4, enough_at, STAYS, (0, 4), ASKED, 0)
        self.refused(errors.NoVersion, 0, enough_at, STAYS, (0, 1), ASKED, 0)
        self.refused(errors.NoVersion, 0, safe_from, STAYS, ASKED, 0)

    def test_refusals_of_worth(self):
        many = by_count(range(8), 4)
        wide = (8, 0, (("put", 0, 1, tuple(range(8)), many), ("put", 0, 2, tuple(range(8)), many),
                       ("copy", 0, 0, 1), ("lose", 0, 0)))
        self.refused(errors.NoPlace, 8, worth, wide, (8,), 0, 9)
        self.refused(errors.NoDeed, 9, worth, wide, (0,), 0, 9)
        self.refused(errors.NoDeed, -1, worth, wide, (0,), 0, -1)
        self.refused(errors.NoVersion, 0, worth, wide, (0,), 0, 3)
        for number in (0, 3):
            self.assertRaises(errors.CanNot, worth, wide, (0,), 1, number)
        self.assertRaises(errors.TooMany, worth, wide, (0,), 1, 2)
        self.assertEqual(worth(wide, (0,), 2, 2), 0)

    def test_at_the_bounds(self):
        eight, half = tuple(range(8)), by_count(range(8), 4)
        deeds = tuple(("put", k, k + 1, eight, half) if k % 4 == 0 else ("copy", k, k % 8, (k * 5 + 1) % 8)
                      if k % 8 != (k * 5 + 1) % 8 else ("wait", k) for k in range(24))
        book = (8, 0, deeds)
        good = [lot for lot in lots_below(8) if not misses(book, lot, 1)]
        self.assertEqual(helpers(book, (), 1), list(oracles.minimal(good)))
        row = cheapest_mend(book, half, 21, 2)
        self.assertTrue(row is None or mends_it(book, half, 21, row))
        self.assertIsNone(cheapest_mend(book, ((0,), (1,), (2,), (3,)), 21, 2))
        for k in enough_at(book, eight, half, 1):
            self.assertFalse(any_misses(put_in(book, k, chain(eight)), half, 1))
        writes = (8, 0, tuple(("put", k, k + 1, eight, half) for k in range(24)))
        self.assertEqual(enough_at(writes, eight, half, 24), (24,))
        self.assertEqual(safe_from(writes, by_count(range(8), 5), 24), 24)
        self.assertEqual(blamed(book, (0, 1), 21), tuple(
            k for k, deed in enumerate(deeds) if deed[0] == "copy"
            and misses(without(book, k), (0, 1), 21) != misses(book, (0, 1), 21)))


if __name__ == "__main__":
    unittest.main()
