"""Worlds, against all WORLDS of many small BOOKS, each played step by step."""

import random
import unittest
from itertools import product

from hintring import errors
from hintring.books import last, upto
from hintring.worlds import (carried, cells_at, cells_by_moments, cut_world, fits, full_world, hushed, is_world,
                             joined_worlds, least_world, may_be, may_carry, quiet_world, tells, world_to)
from tests import oracles
from tests.cases import Case
from tests.makers import all_parts, all_takers, all_worlds, random_book, small_books, subsets, when

EMPTY = (2, 0, ())
TWO_OF = ((0, 1), (0, 2), (1, 2))
LATE = (2, 9, (("put", 0, 1, (0,), ((0,),)), ("lose", 1, 0), ("send", 2, 0, 1)))
BOOK = (3, 1, (("put", 0, 3, (0, 1), ((0,), (1,))), ("send", 0, 0, 2), ("lose", 1, 0), ("wait", 2),
               ("copy", 2, 1, 0)))
WORLD = (((0,), ((0, 3), (1, 1))), (2, 3), (), (), ())


def random_worlds(seed, count, many=4, deeds=8):
    """Pairs of a BOOK and a WORLD of it."""
    rng, found = random.Random(seed), []
    for _ in range(count):
        book = random_book(rng, rng.randrange(1, many + 1), rng.randrange(0, deeds + 1))
        found.append((book, random_world(rng, book)))
    return found


def random_world(rng, book):
    world = []
    for number, deed in enumerate(book[2]):
        moments = when(book, number)
        if oracles.is_written(deed):
            pairs = [(place, moment) for place in deed[3] for moment in moments if rng.random() < 0.3]
            world.append((rng.choice(all_takers(deed)), tuple(pairs)))
        else:
            kept = moments if deed[0] == "send" else []
            world.append(tuple(moment for moment in kept if rng.random() < 0.5))
    return tuple(world)


class Playing(Case):
    def test_against_a_plain_play(self):
        for book, world in random_worlds(40, 300):
            rows, loads = oracles.play(book, world)
            self.assertEqual(cells_by_moments(book, world), rows)
            self.assertEqual([cells_at(book, world, k) for k in range(last(book) + 1)], rows)
            self.assertEqual(carried(book, world), tuple(loads))
            for some in subsets(range(book[0])):
                for moment, cells in enumerate(rows):
                    self.assertEqual(tells(book, world, some, moment), oracles.read(cells, some))

    def test_all_worlds_of_one_book(self):
        for world in all_worlds(BOOK):
            self.assertTrue(is_world(BOOK, world))
            self.assertEqual(cells_by_moments(BOOK, world), oracles.play(BOOK, world)[0])

    def test_fits(self):
        rng = random.Random(41)
        for book, world in random_worlds(42, 200):
            rows = oracles.play(book, world)[0]
            moments = sorted(rng.randrange(last(book) + 1) for _ in range(rng.randrange(0, 5)))
            asked = [(moment, rng.choice(subsets(range(book[0])))) for moment in moments]
            log = tuple((moment, some, oracles.read(rows[moment], some)) for moment, some in asked)
            self.assertIs(fits(book, world, log), True)
            for at, (moment, some, version) in enumerate(log):
                for other in (version + 1, version - 1, 0):
                    bent = log[:at] + ((moment, some, other),) + log[at + 1:]
                    self.assertIs(fits(book, world, bent), other == version)

    def test_edges(self):
        self.assertEqual((cells_by_moments(EMPTY, ()), carried(EMPTY, ())), ([(0, 0)], ()))
        self.assertEqual((tells(EMPTY, (), (), 0), tells(EMPTY, (), (0, 1), 0)), (0, 0))
        self.assertIs(fits(EMPTY, (), ()), True)
        self.assertEqual(cells_by_moments(BOOK, WORLD),
                         [(0, 0, 0), (3, 3, 0), (3, 3, 3), (3, 3, 3), (3, 3, 3), (3, 3, 3)])
        again = (((0,), ((0, 2),)), (), (3,))
        self.assertEqual(cells_by_moments(LATE, again), [(0, 0), (1, 0), (1, 0), (1, 1)])
        empty_letter = (((0,), ()), (), (3,))
        self.assertEqual((carried(LATE, empty_letter), cells_at(LATE, empty_letter, 3)), ((1, 0, 0), (0, 0)))

    def test_refusals(self):
        for moment in (-1, 6, 10 ** 9):
            self.refused(errors.NoMoment, moment, cells_at, BOOK, WORLD, moment)
            self.refused(errors.NoMoment, moment, tells, BOOK, WORLD, (0,), moment)
            self.refused(errors.NoMoment, moment, cut_world, BOOK, WORLD, moment)
            self.refused(errors.NoMoment, moment, hushed, BOOK, WORLD, moment)
            self.refused(errors.NoMoment, moment, may_be, BOOK, moment)
            self.refused(errors.NoMoment, moment, world_to, BOOK, moment, (0, 0, 0))
        for some, place in (((3,), 3), ((-1, 0, 3), -1), ((0, 4, 5), 4)):
            self.refused(errors.NoPlace, place, tells, BOOK, WORLD, some, 9)
        for number in (-1, 5):
            self.refused(errors.NoDeed, number, may_carry, BOOK, number)
        for number in (0, 2, 3, 4):
            self.assertRaises(errors.CanNot, may_carry, BOOK, number)


class Making(Case):
    def test_least_and_full(self):
        for book, world in random_worlds(43, 150):
            least = least_world(book)
            full = full_world(book)
            for number, deed in enumerate(book[2]):
                if oracles.is_written(deed):
                    self.assertEqual(least[number], (deed[4][0], ()))
                    pairs = {(place, moment) for place in deed[3] for moment in when(book, number)}
                    self.assertEqual(full[number], (deed[3], tuple(sorted(pairs))))
                else:
                    self.assertEqual(least[number], ())
                    self.assertEqual(full[number], tuple(when(book, number)) if deed[0] == "send" else ())
            self.assertTrue(is_world(book, least) and is_world(book, full))
            for one, other in zip(cells_by_moments(book, full), cells_by_moments(book, world)):
                self.assertTrue(all(held >= less for held, less in zip(one, other)))

    def test_quiet(self):
        for book, world in random_worlds(44, 150):
            lots = tuple(part[0] for part, deed in zip(world, book[2]) if oracles.is_written(deed))
            wanted = tuple((part[0], ()) if oracles.is_written(deed) else () for part, deed in zip(world, book[2]))
            self.assertEqual(quiet_world(book, lots), wanted)

    def test_quiet_refuses(self):
        book = (4, 0, (("put", 0, 1, (0, 1, 2), TWO_OF), ("wait", 0), ("put", 0, 2, (3,), ((),))))
        self.assertEqual(quiet_world(book, ((0, 1, 2), (3,))), (((0, 1, 2), ()), (), ((3,), ())))
        self.assertEqual(quiet_world(book, ((1, 2), ())), (((1, 2), ()), (), ((), ())))
        self.assertEqual(quiet_world(EMPTY, ()), ())
        for lots in ((), ((0, 1),), ((0, 1), (), ()), ((0,), ()), ((), ()), ((0, 1, 3), ()), ((0, 1), (2,)),
                     ((0, 1), (4,))):
            self.assertRaises(errors.Unfit, quiet_world, book, lots)
        self.assertRaises(errors.Unfit, quiet_world, EMPTY, ((),))

    def test_joined(self):
        rng = random.Random(45)
        for book, world in random_worlds(46, 150):
            other = random_world(rng, book)
            both = joined_worlds(book, world, other)
            for deed, one, two, part in zip(book[2], world, other, both):
                if oracles.is_written(deed):
                    self.assertEqual(part, tuple(tuple(sorted(set(one[k]) | set(two[k]))) for k in (0, 1)))
                else:
                    self.assertEqual(part, tuple(sorted(set(one) | set(two))))
            rows = [cells_by_moments(book, each) for each in (world, other, both)]
            for one, two, cells in zip(*rows):
                self.assertTrue(all(held >= max(pair) for held, pair in zip(cells, zip(one, two))))

    def test_cut_and_hushed(self):
        for book, world in random_worlds(47, 150):
            rows = cells_by_moments(book, world)
            for moment in range(last(book) + 1):
                short, calm = cut_world(book, world, moment), hushed(book, world, moment)
                self.assertTrue(is_world(upto(book, moment), short) and is_world(book, calm))
                self.assertEqual(short, calm[:moment])
                self.assertEqual(cells_by_moments(upto(book, moment), short), rows[:moment + 1])
                self.assertEqual(cells_by_moments(book, calm)[:moment + 1], rows[:moment + 1])
                for deed, part, less in zip(book[2], world, calm):
                    if oracles.is_written(deed):
                        self.assertEqual(less, (part[0], tuple(one for one in part[1] if one[1] <= moment)))
                    else:
                        self.assertEqual(less, tuple(one for one in part if one <= moment))
        self.assertEqual(hushed(BOOK, WORLD, 2), (((0,), ((1, 1),)), (2,), (), (), ()))
        self.assertEqual(cut_world(BOOK, WORLD, 0), ())


class Things(unittest.TestCase):
    def test_is_world_against_all_worlds(self):
        for book in small_books(48, 25, 200, deeds=(1, 2, 3)):
            known = set(all_worlds(book))
            for world in known:
                self.assertIs(is_world(book, world), True)
            for thing in self.near(book, known):
                self.assertIs(is_world(book, thing), thing in known, (book, thing))

    def near(self, book, known):
        """Tuples with parts that other DEEDS may have, or that none may have."""
        odd = [(), (0,), (1,), (2,), (2, 1), (1, 1), ((), ()), ((0,), ()), ((0,), ((0, 1),)), ((0,), ((1, 1),)),
               ((0,), ((0, 9),)), ((1, 0), ()), ((0, 0), ()), ((0,), ((0, 2), (0, 1))), ((0,), ((0, 1), (0, 1)))]
        for world in list(known)[:10]:
            for at in range(len(world)):
                for part in odd:
                    yield world[:at] + (part,) + world[at + 1:]
            yield world + ((),)
            yield world[:-1]

    def test_things_that_are_nearly_a_world(self):
        self.assertIs(is_world(BOOK, WORLD), True)
        good = list(WORLD)
        writes = (None, 0, (), ((0,),), ((0,), (), ()), [(0,), ()], ([0], ()), ((0,), []), ((2,), ()), ((), ()),
                  ((1, 0), ()), ((0, 0), ()), ((False,), ()), ((0, True), ()), ((0, 1, 2), ()), (0, ()), ((0,), 0),
                  ((0,), (0, 1)), ((0,), ([0, 1],)), ((0,), ((0,),)), ((0,), ((0, 1, 1),)), ((0,), ((2, 1),)),
                  ((0,), ((0, 0),)), ((0,), ((0, 4),)), ((0,), ((0, True),)), ((0,), ((False, 1),)),
                  ((0,), ((0, 2), (0, 1))), ((0,), ((0, 1), (0, 1))), ((0,), (("0", 1),)), ((0,), (None,)),
                  ((0,), "ab"), ((0,), None), "ab")
        for part in writes:
            self.assertIs(is_world(BOOK, tuple([part] + good[1:])), False, part)
        for part in (None, 2, [2], (1,), (0,), (4,), (3, 2), (2, 2), (True,), ("2",), ((2,),), ((2,), ()), "",
                     (2, None)):
            self.assertIs(is_world(BOOK, tuple(good[:1] + [part] + good[2:])), False, part)
        for at in (2, 3, 4):
            for part in (None, 0, [], "", False, ((),), (3,), ((), ())):
                self.assertIs(is_world(BOOK, tuple(good[:at] + [part] + good[at + 1:])), False, part)
        for thing in (None, 0, True, "", (), good, WORLD[:4], WORLD + ((),), (WORLD,)):
            self.assertIs(is_world(BOOK, thing), False, thing)
        self.assertIs(is_world(EMPTY, ()), True)
        self.assertIs(is_world(EMPTY, ((),)), False)
        self.assertIs(is_world(LATE, (((0,), ((0, 1), (0, 2), (0, 3))), (), ())), True)


class Coming(Case):
    def check_worlds(self, book, moment, cells):
        """world_to at each of these CELLS, and at all others that could be thought of."""
        held = set(may_be(book, moment))
        self.assertEqual(held, cells)
        versions = [0] + [deed[2] for deed in book[2] if oracles.is_written(deed)]
        for one in product(versions, repeat=book[0]):
            world = world_to(book, moment, one)
            if one in held:
                self.assertTrue(is_world(book, world))
                self.assertEqual(oracles.play(book, world)[0][moment], one)
            else:
                self.assertIsNone(world)

    def test_against_all_worlds(self):
        for book in small_books(49, 100, 3000) + small_books(51, 120, 3000, least_worlds=60):
            end = last(book)
            plays = [oracles.play(book, world) for world in all_worlds(book)]
            for moment in range(end + 1):
                cells = {rows[moment] for rows, _ in plays}
                self.assertEqual(may_be(book, moment), sorted(cells))
                if moment in (end, end // 2):
                    self.check_worlds(book, moment, cells)
            for number, deed in enumerate(book[2]):
                if deed[0] == "send":
                    self.assertEqual(may_carry(book, number), tuple(sorted({loads[number] for _, loads in plays})))

    def test_against_all_states_of_longer_books(self):
        rng = random.Random(50)
        for _ in range(60):
            book = random_book(rng, rng.randrange(2, 4), 8)
            rows = oracles.all_states(book)
            for moment in (8, rng.randrange(8)):
                try:
                    found = may_be(book, moment)
                except errors.TooMany:
                    continue
                self.assertEqual(found, sorted({cells for cells, _ in rows[moment]}))
                for cells in rng.sample(found, min(3, len(found))):
                    world = world_to(book, moment, cells)
                    self.assertTrue(is_world(book, world))
                    self.assertEqual(oracles.play(book, world)[0][moment], cells)

    def test_letters_late_never_and_again(self):
        self.assertEqual(may_be(LATE, 2), [(0, 0), (1, 0)])
        self.assertEqual(may_be(LATE, 3), [(0, 0), (1, 0), (1, 1)])
        self.assertEqual(may_be((2, 0) + LATE[2:], 2), [(0, 0)])
        self.assertEqual((may_carry(LATE, 2), may_carry((2, 0) + LATE[2:], 2)), ((0, 1), (0,)))
        covered = (2, 5, (("put", 0, 1, (0,), ((0,),)), ("send", 0, 0, 1), ("put", 0, 2, (0, 1), ((0, 1),)),
                          ("lose", 3, 1)))
        self.assertEqual(may_be(covered, 4), [(2, 0), (2, 1), (2, 2)])

    def test_edges(self):
        self.assertEqual(may_be(EMPTY, 0), [(0, 0)])
        self.assertEqual((world_to(EMPTY, 0, (0, 0)), world_to(EMPTY, 0, (0, 1))), ((), None))
        for cells in ((), (0,), (0, 0, 0), (0, -1), (10 ** 9, 0)):
            self.assertIsNone(world_to(EMPTY, 0, cells))
        free = (2, 0, (("put", 0, 7, (), ((),)), ("put", 0, 8, (1,), ((),))))
        self.assertEqual(may_be(free, 2), [(0, 0), (0, 8)])
        self.assertEqual(may_be((2, 3, (("send", 0, 0, 1), ("wait", 1))), 2), [(0, 0)])
        self.assertEqual(may_carry((2, 3, (("send", 0, 0, 1),)), 0), (0,))

    def test_a_way_to_cells_ahead_goes_on_behind_them(self):
        book = (2, 3, (("put", 0, 1, (0, 1), ((0,), (1,))), ("send", 1, 0, 1), ("strike", 2, 5, (0,), ((0,),))))
        for cells in may_be(book, 1):
            world = world_to(book, 1, cells)
            self.assertTrue(is_world(book, world))
            self.assertEqual(oracles.play(book, world)[0][1], cells)

    def book_of(self, many, wrote, sends):
        puts = tuple(("put", 0, k + 1, (0,), ((0,),)) for k in range(wrote))
        return many, 0, puts + (("send", 1, 1, 0),) * sends + (("wait", 9),)

    def test_where_too_many_begins(self):
        for many, wrote, sends, good in ((8, 1, 6, True), (8, 1, 7, False), (4, 2, 5, True), (4, 2, 6, False),
                                         (3, 26, 0, True), (3, 27, 0, False), (2, 11, 2, False), (2, 10, 2, True),
                                         (8, 0, 20, True), (2, 140, 0, True), (2, 141, 0, False)):
            book = self.book_of(many, wrote, sends)
            end = wrote + sends
            if good:
                self.assertEqual(len(may_be(book, end)), 1)
                self.assertIsNotNone(world_to(book, end, (wrote,) + (0,) * (many - 1)))
            else:
                self.assertRaises(errors.TooMany, may_be, book, end)
                self.assertRaises(errors.TooMany, world_to, book, end, (0,))
                self.assertRaises(errors.TooMany, world_to, book, end, ())
                self.assertEqual(len(may_be(book, 0)), 1)
                self.assertIsNotNone(world_to(book, wrote // 2, (wrote // 2,) + (0,) * (many - 1)))

    def test_where_too_many_begins_for_letters(self):
        book = self.book_of(8, 1, 7)
        self.assertEqual(may_carry(book, 7), (0,))
        self.assertRaises(errors.TooMany, may_carry, self.book_of(8, 1, 8), 8)
        self.assertRaises(errors.CanNot, may_carry, book, 8)
        self.assertRaises(errors.CanNot, may_carry, book, 0)
        self.refused(errors.NoDeed, 9, may_carry, book, 9)
        self.refused(errors.NoMoment, 10, may_be, book, 10)
        self.refused(errors.NoMoment, -1, world_to, book, -1, ())

    def test_at_the_bounds(self):
        homes = tuple(range(8))
        lots = tuple(sorted(some for some in subsets(homes) if len(some) == 4))
        deeds = (("put", 0, 1, homes, lots),) + (("send", 1, 0, 1), ("lose", 2, 0), ("send", 2, 1, 2)) * 3
        book = (8, 9, deeds + (("copy", 3, 2, 3), ("lose", 3, 2)) * 6)
        found = may_be(book, last(book))
        self.assertEqual(found[-1], (1,) * 8)
        for cells in (found[0], found[-1]):
            world = world_to(book, last(book), cells)
            self.assertTrue(is_world(book, world))
            self.assertEqual(oracles.play(book, world)[0][-1], cells)


class Reading(unittest.TestCase):
    def test_parts_of_a_world_stand_for_themselves(self):
        self.assertEqual(len(all_parts(BOOK, 0)), 3 * 2 ** 6)
        self.assertEqual(sum(1 for _ in all_worlds(BOOK)), 3 * 2 ** 6 * 4)


if __name__ == "__main__":
    unittest.main()
