"""Logs, against all WORLDS of many small BOOKS, and MARKINGS against their definitions."""

import random
import unittest
from functools import lru_cache
from itertools import product

from hintring import errors
from hintring.books import last, upto, versions
from hintring.families import by_count
from hintring.instead import can_tell, told_by
from hintring.logs import (backs, blame, breaks_at, can_be, fence_of, is_log, is_rising, log_world, markings,
                           may_have_taken, next_answers, reach_of, sure_lot, surely_took)
from hintring.worlds import fits, is_world
from tests import oracles
from tests.cases import Case
from tests.makers import all_worlds, random_book, random_world, small_books, subsets, when

TWO_OF = ((0, 1), (0, 2), (1, 2))
PLAIN = (3, 2, (("put", 0, 1, (0, 1, 2), TWO_OF),))
COVERED = (3, 9, (("put", 0, 1, (2,), ((2,),)), ("put", 1, 2, (1, 2), ((1, 2),)), ("send", 2, 2, 0)))
EMPTY = (2, 0, ())
GREAT = 10 ** 9


@lru_cache(maxsize=None)
def histories(book):
    """The pairs (takers of each write, CELLS of all MOMENTS) of all WORLDS, each once."""
    found = set()
    for world in all_worlds(book):
        takers = tuple(part[0] if oracles.is_written(deed) else () for deed, part in zip(book[2], world))
        found.add((takers, tuple(oracles.play(book, world)[0])))
    return found


@lru_cache(maxsize=None)
def rows_of(book):
    return {rows for _, rows in histories(book)}


def keeps(rows, log):
    return all(oracles.read(rows[moment], some) == version for moment, some, version in log)


def asked_at_random(rng, book, count):
    """MOMENTS that do not fall, each with a LOT."""
    moments = sorted(rng.randrange(last(book) + 1) for _ in range(count))
    return [(moment, rng.choice(subsets(range(book[0])))) for moment in moments]


def random_logs(rng, book, count):
    """LOGS of this BOOK, some of which can be."""
    found = [()]
    rows = sorted(rows_of(book))
    numbers = (0, 0) + versions(book) + (max(versions(book) + (0,)) + 1,)
    while len(found) < count:
        kept = rng.choice(rows)
        log = []
        for moment, some in asked_at_random(rng, book, rng.choice((1, 2, 2, 3))):
            told = oracles.read(kept[moment], some)
            log.append((moment, some, rng.choice(numbers) if rng.random() < 0.3 else told))
        found.append(tuple(log))
    return found


BOOKS = small_books(300, 60, 1500) + small_books(301, 60, 3000, least_worlds=60)
RNG = random.Random(302)
CASES = [(book, log) for book in BOOKS for log in random_logs(RNG, book, 6)]
# BOOKS of more sends and losses, as the FENCES are about these.
SENDING = small_books(303, 60, 3000, many=(3, 3, 4), deeds=(4, 5, 6, 7), least_worlds=30,
                      kinds=("put", "put", "strike", "send", "send", "send", "copy", "copy", "lose"))
CASES += [(book, log) for book in SENDING for log in random_logs(RNG, book, 8)]


def minimal_sets(sets):
    return tuple(sorted(one for one in sets if not any(set(other) < set(one) for other in sets)))


class AllWorlds(Case):
    def test_enough_can_be_and_enough_can_not(self):
        told = [any(keeps(rows, log) for rows in rows_of(book)) for book, log in CASES]
        self.assertGreater(told.count(True), 300)
        self.assertGreater(told.count(False), 150)

    def test_can_be_and_log_world(self):
        for book, log in CASES:
            wanted = any(keeps(rows, log) for rows in rows_of(book))
            self.assertIs(can_be(book, log), wanted, (book, log))
            world = log_world(book, log)
            if wanted:
                self.assertTrue(is_world(book, world))
                self.assertTrue(fits(book, world, log))
                self.assertTrue(keeps(oracles.play(book, world)[0], log))
            else:
                self.assertIsNone(world)

    def test_next_answers(self):
        for book, log in CASES:
            for moment in {last(book), log[-1][0] if log else 0}:
                for some in subsets(range(book[0])):
                    wanted = {oracles.read(rows[moment], some) for rows in rows_of(book) if keeps(rows, log)}
                    self.assertEqual(next_answers(book, log, moment, some), tuple(sorted(wanted)))

    def test_sure_lot(self):
        met = set()
        for book, log in CASES:
            kept = [rows for rows in rows_of(book) if keeps(rows, log)]
            for moment in {last(book), log[-1][0] if log else 0}:
                for owners in (tuple(range(book[0])), (0,), ()):
                    sure = [some for some in subsets(owners)
                            if some and len({oracles.read(rows[moment], some) for rows in kept}) == 1]
                    wanted = min(sure, key=lambda some: (len(some), some)) if sure else None
                    self.assertEqual(sure_lot(book, log, moment, owners), wanted, (book, log, moment))
                    met.add(wanted)
        self.assertTrue({None, (0,), (1,), (0, 1), (1, 2), (0, 1, 2)} <= met)

    def test_blame(self):
        for book, log in CASES:
            able = [some for some in subsets(range(len(log)))
                    if any(keeps(rows, [entry for at, entry in enumerate(log) if at not in some])
                           for rows in rows_of(book))]
            self.assertEqual(blame(book, log), minimal_sets(able))

    def test_surely_took_and_may_have_taken(self):
        for book, log in CASES:
            kept = [takers for takers, rows in histories(book) if keeps(rows, log)]
            for number, deed in enumerate(book[2]):
                if oracles.is_written(deed):
                    sure, able = surely_took(book, log, deed[2]), may_have_taken(book, log, deed[2])
                    if not kept:
                        self.assertEqual((sure, able), (None, None))
                    else:
                        lots = [set(takers[number]) for takers in kept]
                        self.assertEqual(sure, tuple(sorted(set.intersection(*lots))))
                        self.assertEqual(able, tuple(sorted(set.union(*lots))))

    def test_backs(self):
        some_back = 0
        for book in BOOKS + SENDING:
            for _ in range(6):
                (moment, some), (after, other) = asked_at_random(RNG, book, 2)
                wanted = {oracles.read(rows[moment], some) for rows in rows_of(book)
                          if oracles.read(rows[after], other) < oracles.read(rows[moment], some)}
                self.assertEqual(backs(book, moment, some, after, other), tuple(sorted(wanted)))
                some_back += bool(wanted)
        self.assertGreater(some_back, 100)

    def test_is_rising(self):
        told = []
        for book in BOOKS + SENDING:
            for count in (1, 2, 2, 3):
                asks = tuple((moment, some) for moment, some in asked_at_random(RNG, book, count) if some)
                wanted = not any(oracles.read(rows[asks[j][0]], asks[j][1]) < oracles.read(rows[moment], some)
                                 for rows in rows_of(book)
                                 for at, (moment, some) in enumerate(asks) for j in range(at, len(asks)))
                self.assertIs(is_rising(book, asks), wanted)
                told.append(wanted)
        self.assertGreater(told.count(True), 40)
        self.assertGreater(told.count(False), 40)


def held_stands(book, log, marking, number):
    """The STANDS that must hold at most so much, of themselves."""
    sends = [k for k, deed in enumerate(book[2]) if deed[0] == "send"]
    found = {(moment, place) for moment, some, version in log if version <= number for place in some}
    return found | {(k, book[2][k][2]) for k, mark in zip(sends, marking) if 1 <= mark <= number}


def fence_by_roads(book, log, marking, number):
    held = held_stands(book, log, marking, number)
    return tuple(tuple(place for place in range(book[0])
                       if any((start + at, here) in held for road in all_roads(book, start, place)
                              for at, here in enumerate(road)))
                 for start in range(last(book) + 1))


@lru_cache(maxsize=None)
def all_roads(book, start, place):
    """All roads from this STAND, to whatever MOMENT."""
    return [road for moment in range(start, last(book) + 1)
            for road in oracles.all_roads(book, start, place, moment)]


def reach_by_steps(book, log, marking, version):
    deeds = book[2]
    inner, outer = fence_by_roads(book, log, marking, version - 1), fence_by_roads(book, log, marking, version)
    free = {(k, place) for k, lot in enumerate(outer) for place in lot if place not in inner[k]}
    marks = dict(zip([k for k, deed in enumerate(deeds) if deed[0] == "send"], marking))
    found, fresh = set(), []
    for k, deed in enumerate(deeds):
        if oracles.is_written(deed) and deed[2] == version:
            fresh = [(moment, place) for place in deed[3] for moment in when(book, k)]
    while fresh:
        stand = fresh.pop()
        if stand in free and stand not in found:
            found.add(stand)
            moment, place = stand
            if moment < len(deeds):
                deed = deeds[moment]
                if deed[:1] + deed[2:] != ("lose", place):
                    fresh.append((moment + 1, place))
                if deed[0] == "copy" and deed[2] == place:
                    fresh.append((moment + 1, deed[3]))
                if deed[0] == "send" and deed[2] == place and marks[moment] == version:
                    fresh += [(later, deed[3]) for later in when(book, moment)]
    return tuple(tuple(place for place in range(book[0]) if (k, place) in found) for k in range(len(deeds) + 1))


def does(book, log, marking):
    """None if it does; else the write or the entry that fails."""
    for number, deed in enumerate(book[2]):
        if oracles.is_written(deed):
            lot = fence_by_roads(book, log, marking, deed[2] - 1)[number + 1]
            if all(set(one) & set(lot) for one in deed[4]):
                return "write", number
    for at, (moment, some, version) in enumerate(log):
        if version and not set(some) & set(reach_by_steps(book, log, marking, version)[moment]):
            return "entry", at
    return None


class Markings(Case):
    CASES = [case for case in CASES[::3] if last(case[0]) <= 6]

    def test_markings(self):
        for book, log in self.CASES:
            sends = [deed for deed in book[2] if deed[0] == "send"]
            marks = sorted({0} | {version for _, _, version in log})
            self.assertEqual(markings(book, log), tuple(product(marks, repeat=len(sends))))

    def test_fence_of_and_reach_of(self):
        for book, log in self.CASES:
            told = {version for _, _, version in log}
            for marking in markings(book, log)[:6]:
                for number in {0, 1, GREAT} | told | {version + 1 for version in told}:
                    self.assertEqual(fence_of(book, log, marking, number),
                                     fence_by_roads(book, log, marking, number))
                for version in told - {0}:
                    self.assertEqual(reach_of(book, log, marking, version),
                                     reach_by_steps(book, log, marking, version))

    def test_breaks_at(self):
        seen = []
        for book, log in self.CASES:
            for marking in markings(book, log)[:6]:
                wanted = does(book, log, marking)
                told = breaks_at(book, log, marking)
                seen.append(wanted and wanted[0])
                if wanted is None:
                    self.assertIsNone(told)
                elif wanted[0] == "entry":
                    self.assertEqual(told, wanted[1])
                else:
                    self.check_roads(book, log, marking, told, wanted[1])
        self.assertEqual(set(seen), {None, "write", "entry"})

    def check_roads(self, book, log, marking, told, number):
        self.assertEqual(told[0], number)
        age = book[2][number][2] - 1
        lot = fence_by_roads(book, log, marking, age)[number + 1]
        self.assertEqual([road[0] for road in told[1]], [place for place in book[2][number][3] if place in lot])
        held = held_stands(book, log, marking, age)
        for road in told[1]:
            self.assertIn(road, all_roads(book, number + 1, road[0]))
            self.assertIn((number + len(road), road[-1]), held)

    def test_a_log_can_be_exactly_if_a_marking_does(self):
        for book, log in self.CASES:
            able = any(breaks_at(book, log, marking) is None for marking in markings(book, log))
            self.assertEqual(able, any(keeps(rows, log) for rows in rows_of(book)))


class LongerBooks(Case):
    def test_without_a_log_answers_are_what_can_be_told(self):
        rng = random.Random(310)
        kinds = ("put", "put", "strike", "send", "copy", "copy", "copy", "lose", "wait")
        for _ in range(40):
            book = random_book(rng, 4, 10, kinds=kinds)
            if sum(deed[0] == "send" for deed in book[2]) <= 4:
                for moment in (6, 10):
                    for some in subsets(range(4)):
                        self.assertEqual(next_answers(book, (), moment, some), told_by(upto(book, moment), some))
                for some in subsets(range(4)):
                    for version in versions(book):
                        self.assertIs(can_be(book, ((10, some, version),)), can_tell(book, some, version))

    def test_against_states_of_longer_books(self):
        rng = random.Random(311)
        for _ in range(25):
            book = random_book(rng, 3, 9)
            if sum(deed[0] == "send" for deed in book[2]) <= 4:
                cells = {one for one, _ in oracles.all_states(book)[-1]}
                for one, other in product(subsets(range(3)), repeat=2):
                    self.check_pair(book, cells, one, other)

    def test_logs_that_a_world_keeps(self):
        """One home takes each write, so all others have it by copies and sends alone."""
        rng, sent = random.Random(312), 0
        kinds = ("put", "send", "send", "send", "send", "copy", "lose", "wait")
        for _ in range(5000):
            book = random_book(rng, rng.choice((3, 4)), rng.randrange(6, 13), life=rng.randrange(2, 9), kinds=kinds)
            home = (rng.randrange(2),)
            book = book[:2] + (tuple(deed[:3] + (home, (home,)) if oracles.is_written(deed) else deed
                                     for deed in book[2]),)
            rows = oracles.play(book, random_world(rng, book, 0.4))[0]
            log = tuple((moment, some, oracles.read(rows[moment], some)) for moment, some in sorted(
                (rng.randrange(last(book) + 1), (place,)) for place in range(1, book[0])))
            sends = sum(deed[0] == "send" for deed in book[2])
            if len({version for _, _, version in log} | {0}) ** sends <= 700:
                world = log_world(book, log)
                self.assertTrue(is_world(book, world), (book, log))
                self.assertTrue(keeps(oracles.play(book, world)[0], log), (book, log))
                sent += sum(deed[0] == "send" and part != () for deed, part in zip(book[2], world)) > 1
        self.assertGreater(sent, 40)

    def check_pair(self, book, cells, one, other):
        told = {(oracles.read(row, one), oracles.read(row, other)) for row in cells}
        end = last(book)
        for version in (0,) + versions(book):
            wanted = tuple(sorted(second for first, second in told if first == version))
            self.assertEqual(next_answers(book, ((end, one, version),), end, other), wanted)
        self.assertEqual(backs(book, end, one, end, other),
                         tuple(sorted({first for first, second in told if second < first})))


def wide_book(seed, sends, writes):
    """A BOOK of 8 PLACES and 24 DEEDS with so many sends and writes, copies and two losses."""
    rng, owners = random.Random(seed), tuple(range(8))
    kinds = ["send"] * sends + ["put"] * writes + ["copy"] * (22 - sends - writes) + ["lose"] * 2
    rng.shuffle(kinds)
    deeds, version = [], 0
    for tick, kind in enumerate(kinds):
        if kind == "put":
            version += 1
            deeds.append((kind, tick, version, owners, by_count(owners, 4)))
        elif kind == "lose":
            deeds.append((kind, tick, rng.randrange(8)))
        else:
            deeds.append((kind, tick) + tuple(rng.sample(owners, 2)))
    return 8, 30, tuple(deeds)


class Bounds(Case):
    def test_too_many_begins(self):
        log = lambda count, end: tuple((end, (0,), k + 1) for k in range(count))
        for told, most in ((1, 9), (2, 5), (3, 4), (4, 4), (5, 3), (0, 24)):
            for sends in (most, most + 1):
                book = (2, 0, (("send", 0, 0, 1),) * sends)
                good = (told + 1) ** sends <= 700
                self.assertEqual(good, sends == most or told == 0)
                for action in (can_be, log_world, blame, markings):
                    self.limit(good, action, book, log(told, sends))
                marking = (0,) * sends
                self.limit(good, fence_of, book, log(told, sends), marking, 0)
                self.limit(good, breaks_at, book, log(told, sends), marking)
                if told:
                    self.limit(good, reach_of, book, log(told, sends), marking, 1)
        for told, most in ((0, 9), (1, 5), (2, 4), (3, 4), (4, 3), (5, 3)):
            for sends in (most, most + 1):
                book = (2, 0, (("send", 0, 0, 1),) * sends)
                for action in (next_answers, sure_lot):
                    self.limit(sends == most, action, book, log(told, sends), sends, (0,))
        for sends in (9, 10):
            book = (2, 0, (("put", 0, 1, (0,), ((0,),)),) + (("send", 0, 0, 1),) * sends)
            self.limit(sends == 9, backs, book, 1, (0,), 1, (1,))
            self.limit(sends == 9, is_rising, book, ())
            self.limit(sends == 9, surely_took, book, ((1, (0,), 1),), 1)
            self.limit(sends == 9, may_have_taken, book, ((1, (0,), 1), (2, (0,), 0), (3, (0,), 1)), 1)

    def limit(self, good, action, *args):
        if good:
            action(*args)
        else:
            self.assertRaises(errors.TooMany, action, *args)

    def test_zeros_are_no_versions_of_a_log(self):
        book = (2, 0, (("send", 0, 0, 1),) * 24)
        self.assertIs(can_be(book, ((0, (0,), 0),) * 5), True)

    def test_at_the_bounds(self):
        owners = tuple(range(8))
        for seed, sends, asks in ((1, 4, ((0, 5), (1,))), (2, 3, ((2, 6), (6,), (1, 7))), (3, 5, ((2,),)), (4, 9, ())):
            book, log = wide_book(seed, sends, 8), ()
            for some in asks:
                answers = next_answers(book, log, 24, some)
                log += ((24, some, answers[len(answers) // 2]),)
            self.assertIs(can_be(book, log), True)
            self.assertTrue(keeps(oracles.play(book, log_world(book, log))[0], log))
            self.assertEqual(blame(book, log), ((),))
            for version in versions(book):
                self.assertTrue(set(surely_took(book, log, version)) <= set(may_have_taken(book, log, version)))
            self.check_sure(book, log, sure_lot(book, log, 24, owners))

    def check_sure(self, book, log, sure):
        self.assertEqual(len(next_answers(book, log, 24, sure)), 1)
        for some in subsets(range(8)):
            if 0 < len(some) < len(sure) and len(some) < 3:
                self.assertGreater(len(next_answers(book, log, 24, some)), 1)

    def test_many_reads_at_the_bounds(self):
        book = wide_book(5, 9, 10)
        asks = tuple((12 + k, (k, (k + 1) % 8)) for k in range(7)) + ((24, (0, 7)),)
        self.assertIs(is_rising(book, tuple((moment, tuple(sorted(some))) for moment, some in asks)), False)
        kept = (8, 30, tuple(deed for deed in book[2] if deed[0] != "lose"))
        self.assertIs(is_rising(kept, tuple((k, tuple(range(8))) for k in range(8, 16))), True)
        for other in subsets(range(8)):
            told = set(backs(book, 24, (0, 1), 24, other))
            self.assertTrue(told <= set(told_by(book, (0, 1))))


class Edges(Case):
    def test_no_entries(self):
        for book in (EMPTY, PLAIN, COVERED):
            self.assertIs(can_be(book, ()), True)
            self.assertTrue(is_world(book, log_world(book, ())))
            self.assertEqual(blame(book, ()), ((),))
        self.assertEqual(markings(EMPTY, ()), ((),))
        self.assertEqual(markings(COVERED, ()), ((0,),))
        self.assertIsNone(breaks_at(COVERED, (), (0,)))
        self.assertEqual(fence_of(COVERED, (), (0,), 5), ((),) * 4)
        self.assertEqual((surely_took(PLAIN, (), 1), may_have_taken(PLAIN, (), 1)), ((), (0, 1, 2)))
        self.assertEqual((surely_took(COVERED, (), 2), may_have_taken(COVERED, (), 2)), ((1, 2), (1, 2)))
        self.assertIs(is_rising(PLAIN, ()), True)

    def test_a_lot_asked_twice_at_one_moment(self):
        self.assertIs(can_be(PLAIN, ((1, (0,), 1), (1, (0,), 1))), True)
        self.assertIs(can_be(PLAIN, ((1, (0,), 1), (1, (0,), 0))), False)
        self.assertEqual(blame(PLAIN, ((1, (0,), 1), (1, (0,), 0))), ((0,), (1,)))
        self.assertEqual(blame(PLAIN, ((1, (0,), 1), (1, (0,), 0), (1, (0,), 1))), ((0, 2), (1,)))
        self.assertEqual(next_answers(PLAIN, ((1, (0,), 1),), 1, (0,)), (1,))

    def test_nobody_asked(self):
        self.assertIs(can_be(PLAIN, ((1, (), 0),)), True)
        self.assertIs(can_be(PLAIN, ((1, (), 1),)), False)
        self.assertEqual(next_answers(PLAIN, (), 1, ()), (0,))
        self.assertEqual(backs(PLAIN, 1, (), 1, (0,)), ())
        self.assertEqual(backs(PLAIN, 1, (0,), 1, ()), (1,))
        self.assertIs(is_rising(PLAIN, ((1, (0,)), (1, ()))), False)
        self.assertIsNone(sure_lot(PLAIN, (), 1, ()))

    def test_a_write_without_homes(self):
        book = (2, 0, (("put", 0, 1, (), ((),)),))
        self.assertEqual((surely_took(book, (), 1), may_have_taken(book, (), 1)), ((), ()))
        self.assertEqual(next_answers(book, (), 1, (0, 1)), (0,))
        self.assertEqual((can_be(book, ((1, (0, 1), 1),)), blame(book, ((1, (0, 1), 1),))), (False, ((0,),)))

    def test_versions_that_the_book_does_not_have(self):
        self.assertIs(can_be(PLAIN, ((1, (0, 1, 2), 2),)), False)
        self.assertEqual(blame(PLAIN, ((1, (0, 1, 2), 2), (1, (0,), 0))), ((0,),))
        self.assertEqual(reach_of(PLAIN, ((1, (0,), 7),), (), 7), ((), ()))
        self.assertEqual(breaks_at(PLAIN, ((1, (0,), 0), (1, (0,), 7)), ()), 1)
        self.assertEqual(next_answers(PLAIN, ((1, (0,), 7),), 1, (0,)), ())
        self.assertIsNone(sure_lot(PLAIN, ((1, (0,), 7),), 1, (0, 1, 2)))
        self.assertIsNone(log_world(PLAIN, ((0, (0,), 1),)))
        self.assertEqual(surely_took(PLAIN, ((1, (0,), 7),), 1), None)

    def test_letters_that_must_come_just_then(self):
        put = ("put", 0, 1, (0,), ((0,),))
        for deeds, log, letter in (
                ((("send", 0, 0, 1), ("copy", 0, 0, 1), ("lose", 0, 1)), ((4, (1,), 1),), (1, 4)),
                ((("send", 0, 0, 1), ("copy", 0, 0, 2)), ((2, (0,), 1), (2, (1,), 0), (3, (1,), 1)), (1, 3)),
                ((("send", 0, 0, 1), ("lose", 50, 2)), ((3, (1,), 1),), (1, 2)),
                ((("send", 0, 0, 1), ("copy", 0, 2, 1)), ((2, (1,), 0), (3, (1,), 1)), (1, 3)),
                ((("send", 0, 0, 1), ("lose", 50, 1), ("send", 50, 0, 1)), ((2, (1,), 1), (4, (1,), 1)), (3, 4)),
                ((("send", 0, 0, 2), ("send", 0, 2, 1), ("lose", 0, 2)), ((4, (1,), 1), (4, (2,), 0)), (1, 2))):
            book = (3, 5, (put,) + deeds)
            world = log_world(book, log)
            self.assertTrue(is_world(book, world))
            self.assertTrue(keeps(oracles.play(book, world)[0], log))
            self.assertIn(letter[1], world[letter[0]])

    def test_entries_ahead_of_all(self):
        self.assertIs(can_be(PLAIN, ((0, (0, 1, 2), 0), (1, (0, 1), 1))), True)
        self.assertEqual(next_answers(PLAIN, (), 0, (0, 1, 2)), (0,))
        self.assertEqual(sure_lot(PLAIN, (), 0, (1, 2)), (1,))

    def test_refusals(self):
        for action in (next_answers, sure_lot):
            self.refused(errors.NoPlace, 3, action, PLAIN, ((1, (0,), 0),), 7, (0, 3, 4))
            self.refused(errors.NoMoment, 2, action, PLAIN, ((1, (0,), 0),), 2, (0,))
            self.refused(errors.NoMoment, -1, action, PLAIN, ((1, (0,), 0),), -1, (0,))
            self.assertRaises(errors.Unfit, action, PLAIN, ((1, (0,), 0),), 0, (0,))
            self.assertRaises(errors.Unfit, action, (2, 0, (("send", 0, 0, 1),) * 10), ((1, (0,), 1),), 0, (0,))
        self.refused(errors.NoPlace, 3, backs, PLAIN, 9, (0, 3), 0, (4,))
        self.refused(errors.NoPlace, 4, backs, PLAIN, 9, (0,), 0, (4,))
        self.refused(errors.NoMoment, 9, backs, PLAIN, 9, (0,), -1, (0,))
        self.refused(errors.NoMoment, -1, backs, PLAIN, 1, (0,), -1, (0,))
        self.assertRaises(errors.Unfit, backs, (2, 0, (("send", 0, 0, 1),) * 10), 1, (0,), 0, (0,))
        many_sends = (2, 0, (("put", 0, 3, (0,), ((0,),)),) + (("send", 0, 0, 1),) * 10)
        for action in (surely_took, may_have_taken):
            for version in (-1, 0, 2, GREAT):
                self.refused(errors.NoVersion, version, action, PLAIN, ((1, (0,), 7),), version)
                self.refused(errors.NoVersion, version, action, many_sends, ((1, (0,), 3),), version)
            self.assertRaises(errors.TooMany, action, many_sends, ((1, (0,), 3),), 3)

    def test_refusals_of_markings(self):
        log = ((3, (0,), 1),)
        for marking in ((), (0, 0), (2,), (-1,), (True,), (False,), ("0",), (None,), ((0,),), None, 0, "0"):
            for args in ((fence_of, 1), (reach_of, 1), (breaks_at,)):
                self.assertRaises(errors.Unfit, args[0], COVERED, log, marking, *args[1:])
        for version in (-1, 0, 2):
            self.refused(errors.NoVersion, version, reach_of, COVERED, log + ((3, (0,), 0),), (9,), version)
        sends = (2, 0, (("send", 0, 0, 1),) * 10)
        self.assertRaises(errors.Unfit, breaks_at, sends, ((1, (0,), 1),), (2,) * 10)
        self.refused(errors.NoVersion, 4, reach_of, sends, ((1, (0,), 1),), (2,) * 10, 4)


class Things(Case):
    def test_is_log(self):
        for thing in ((), ((1, (0,), 0),), ((0, (), 0), (0, (), 5), (1, (0, 2), GREAT)), ((1, (), 10 ** 30),) * 9):
            self.assertIs(is_log(PLAIN, thing), True)
        for thing in (None, 0, True, "", "abc", [], [(1, (0,), 0)], (1, (0,), 0), ([1, (0,), 0],), ((1, [0], 0),),
                      ((1, (0,)),), ((1, (0,), 0, 0),), ((True, (0,), 0),), ((1, (False,), 0),), ((1, (0,), True),),
                      ((1, (0,), None),), ((-1, (0,), 0),), ((2, (0,), 0),), ((1, (3,), 0),), ((1, (-1,), 0),),
                      ((1, (1, 0), 0),), ((1, (0, 0), 0),), ((1, (0,), -1),), ((1, 0, 0),), (("1", (0,), 0),),
                      ((1, "0", 0),), ((1, (0,), "0"),), ((1, (0,), 0), (0, (0,), 0)), ((1, (0,), 0), None), (None,),
                      ((1, ("0",), 0),), ((1, ((0,),), 0),), ((1, (0, None), 0),)):
            self.assertIs(is_log(PLAIN, thing), False, thing)


if __name__ == "__main__":
    unittest.main()
