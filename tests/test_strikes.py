"""Deletions that are forgotten, against all WORLDS of many small BOOKS."""

import random
import unittest
from functools import lru_cache

from hintring import errors
from hintring.books import last
from hintring.families import by_count
from hintring.strikes import (cells_in_time, comeback, ended, is_comeback, least_grace, remnants, with_ends)
from hintring.worlds import cells_at, is_world
from tests import oracles
from tests.cases import Case
from tests.makers import all_worlds, random_book, random_world, small_books, subsets, world_count

TWO_OF = ((0, 1), (0, 2), (1, 2))
FIRST, GONE = ("put", 0, 1, (0, 1, 2), TWO_OF), ("strike", 1, 2, (0, 1, 2), TWO_OF)
HEALED = (3, 2, (FIRST, GONE, ("copy", 5, 0, 1), ("copy", 6, 1, 0), ("copy", 7, 1, 2)))
EMPTY = (2, 0, ())
GREAT = 10 ** 9


def end_of(deeds, number, grace):
    """The number of the DEED ahead of which this STRIKE ends, or None."""
    for at in range(number + 1, len(deeds)):
        if deeds[at][1] >= deeds[number][1] + grace:
            return at
    return None


def waits_put_in(book, grace):
    """with_ends, as [12] says it."""
    rows = [(deed, k) for k, deed in enumerate(book[2])]
    for k, deed in enumerate(book[2]):
        if deed[0] == "strike":
            tick = deed[1] + grace
            behind = [at for at, (one, _) in enumerate(rows) if at > rows.index((deed, k)) and one[1] >= tick]
            rows.insert(min(behind, default=len(rows)), (("wait", tick), None))
    return book[0], book[1], tuple(deed for deed, _ in rows)


def ended_then(book, grace, moment):
    """The VERSIONS of the STRIKES that have ended at this MOMENT."""
    ends = [(end_of(book[2], k, grace), deed[2]) for k, deed in enumerate(book[2]) if deed[0] == "strike"]
    return tuple(version for end, version in ends if end is not None and end < moment)


def play_in_time(book, world, grace):
    """The CELLS of all MOMENTS, with this grace."""
    many, _, deeds = book
    held, rows, loads = {place: 0 for place in range(many)}, [(0,) * many], []
    for number, deed in enumerate(deeds):
        over = ended_then(book, grace, number + 1)
        for place in range(many):
            if held[place] in over:
                held[place] = 0
        loads.append(held[deed[2]] if deed[0] == "send" else deed[2] if oracles.is_written(deed) else 0)
        if oracles.is_written(deed):
            for place in world[number][0]:
                held[place] = max(held[place], deed[2])
        elif deed[0] == "copy":
            held[deed[3]] = max(held[deed[3]], held[deed[2]])
        elif deed[0] == "lose":
            held[deed[2]] = 0
        for source in range(number + 1):
            for place, moment in letters_of(deeds[source], world[source]):
                if moment == number + 1 and loads[source] not in over:
                    held[place] = max(held[place], loads[source])
        rows.append(tuple(held[place] for place in range(many)))
    return tuple(rows)


def letters_of(deed, part):
    if oracles.is_written(deed):
        return part[1]
    return [(deed[3], moment) for moment in part] if deed[0] == "send" else []


@lru_cache(maxsize=None)
def histories(book, grace):
    """The CELLS of all MOMENTS in all WORLDS of with_ends, with this grace, each once."""
    timed = waits_put_in(book, grace)
    return {play_in_time(timed, world, grace) for world in all_worlds(timed)}


def puts_of(book):
    return [deed[2] for deed in book[2] if deed[0] == "put"]


def brings_back(book, timed, grace, rows, moment, some):
    told = oracles.read(rows[moment], some)
    return told in puts_of(book) and any(told < version for version in ended_then(timed, grace, moment))


def comes_back(book, grace, some):
    timed = waits_put_in(book, grace)
    return any(brings_back(book, timed, grace, rows, moment, some)
               for rows in histories(book, grace) for moment in range(last(timed) + 1))


def graces_of(book):
    """Enough graces: from some one on nothing changes."""
    return range(max([deed[1] for deed in book[2]] + [0]) + book[1] + 3)


def struck_books(seed, count, most, strikes=1, **more):
    """BOOKS with a PUT ahead of the last of so many STRIKES whose with_ends has few WORLDS."""
    found = []
    for book in small_books(seed, count * 12, most, **more):
        kinds = [deed[0] for deed in book[2] if oracles.is_written(deed)]
        able = "put" in kinds and "strike" in kinds[kinds.index("put"):] and kinds.count("strike") >= strikes
        if able and all(world_count(waits_put_in(book, grace)) <= most for grace in graces_of(book)):
            found.append(book)
    return found[:count]


KINDS = ("put", "put", "strike", "strike", "copy", "copy", "send", "lose", "wait")
BOOKS = struck_books(400, 40, 1000, deeds=(2, 3, 4, 5, 6), kinds=KINDS)
BOOKS += struck_books(401, 40, 1500, deeds=(4, 5, 6, 7), kinds=KINDS, many=(2, 3, 3), least_worlds=40)
BOOKS += struck_books(403, 60, 1500, deeds=(4, 5, 6), kinds=("put", "strike", "strike", "copy", "lose", "wait"),
                      many=(1, 2, 2, 3), strikes=2)
RNG = random.Random(402)


class AllWorlds(Case):
    def test_there_are_enough_books(self):
        self.assertGreater(len(BOOKS), 60)
        self.assertGreater(sum(len([deed for deed in book[2] if deed[0] == "strike"]) > 1 for book in BOOKS), 15)
        between = [book for book in BOOKS if any(deed[0] == "strike" and put > deed[2] for deed in book[2]
                                                 for put in puts_of(book)[:-1])]
        self.assertGreater(len(between), 3)

    def test_comeback(self):
        backs = 0
        for book in BOOKS:
            for grace in graces_of(book):
                for some in subsets(range(book[0])):
                    wanted, told = comes_back(book, grace, some), comeback(book, grace, some)
                    self.assertEqual(told is not None, wanted, (book, grace, some))
                    if wanted:
                        self.check_comeback(book, grace, some, told)
                        backs += 1
        self.assertGreater(backs, 200)

    def check_comeback(self, book, grace, some, told):
        moment, world = told
        timed = waits_put_in(book, grace)
        self.assertTrue(is_world(timed, world))
        self.assertTrue(brings_back(book, timed, grace, play_in_time(timed, world, grace), moment, some))
        self.assertIs(is_comeback(book, grace, some, told), True)

    def test_is_comeback(self):
        told = set()
        for book in BOOKS:
            grace = RNG.choice(graces_of(book))
            timed = waits_put_in(book, grace)
            worlds = list(all_worlds(timed))
            for world in RNG.sample(worlds, min(len(worlds), 12)):
                rows = play_in_time(timed, world, grace)
                for moment in range(last(timed) + 1):
                    for some in subsets(range(book[0])):
                        wanted = brings_back(book, timed, grace, rows, moment, some)
                        self.assertIs(is_comeback(book, grace, some, (moment, world)), wanted)
                        told.add(wanted)
        self.assertEqual(told, {True, False})

    def test_least_grace_to_the_tick(self):
        seen = []
        for book in BOOKS:
            for some in subsets(range(book[0])):
                row = [comes_back(book, grace, some) for grace in graces_of(book)]
                self.assertEqual(row, sorted(row, reverse=True))
                wanted = row.index(False) if False in row else None
                self.assertEqual(least_grace(book, some), wanted, (book, some))
                seen.append(wanted)
        self.assertTrue({None, 0, 1, 2, 3, 4} <= set(seen))

    def test_remnants(self):
        for book in BOOKS:
            plays = {tuple(oracles.play(book, world)[0]) for world in all_worlds(book)}
            for deed in book[2]:
                if deed[0] == "strike":
                    elder = [put for put in puts_of(book) if put < deed[2]]
                    for moment in range(last(book) + 1):
                        wanted = [place for place in range(book[0])
                                  if any(rows[moment][place] in elder for rows in plays)]
                        self.assertEqual(remnants(book, deed[2], moment), tuple(wanted))

    def test_cells_in_time(self):
        for book in BOOKS:
            for grace in list(graces_of(book))[::2]:
                for one in (book, waits_put_in(book, grace)):
                    worlds = list(all_worlds(one))
                    for world in RNG.sample(worlds, min(len(worlds), 5)):
                        rows = play_in_time(one, world, grace)
                        for moment in range(last(one) + 1):
                            self.assertEqual(cells_in_time(one, world, grace, moment), rows[moment])

    def test_a_lot_that_brings_back_has_a_place_that_does_so_alone(self):
        for book in BOOKS:
            for grace in graces_of(book):
                alone = [place for place in range(book[0]) if comeback(book, grace, (place,)) is not None]
                for some in subsets(range(book[0])):
                    if comeback(book, grace, some) is not None:
                        self.assertTrue(set(some) & set(alone))

    def test_a_remnant_ahead_of_the_end_comes_back(self):
        seen = 0
        for book in BOOKS:
            for grace in list(graces_of(book))[::2]:
                timed = with_ends(book, grace)
                for number, deed in enumerate(timed[2]):
                    if deed[0] == "strike":
                        for place in remnants(timed, deed[2], end_of(timed[2], number, grace)):
                            self.assertIsNotNone(comeback(book, grace, (place,)))
                            seen += 1
        self.assertGreater(seen, 100)

    def test_if_nothing_comes_back_ends_are_never_seen(self):
        seen = 0
        for book in BOOKS:
            for grace in graces_of(book):
                if all(comeback(book, grace, (place,)) is None for place in range(book[0])):
                    self.check_unseen(book, grace)
                    seen += 1
        self.assertGreater(seen, 100)

    def check_unseen(self, book, grace):
        timed, puts = with_ends(book, grace), puts_of(book)
        worlds = list(all_worlds(timed))
        for world in RNG.sample(worlds, min(len(worlds), 10)):
            for moment in range(last(timed) + 1):
                stay, end = cells_at(timed, world, moment), cells_in_time(timed, world, grace, moment)
                for some in subsets(range(book[0])):
                    told = [oracles.read(cells, some) for cells in (stay, end)]
                    self.assertEqual(*[one if one in puts else None for one in told])


class LongerBooks(Case):
    KINDS = ("put", "put", "strike", "strike", "strike", "copy", "copy", "send", "send", "lose", "wait")

    def books(self, seed, count):
        rng, found = random.Random(seed), []
        while len(found) < count:
            book = random_book(rng, 4, rng.randrange(7, 12), kinds=self.KINDS)
            ways = 1
            for deed in book[2]:
                ways *= len(deed[4]) if oracles.is_written(deed) else 1
            if ways <= 1000:
                found.append(book)
        return found

    def test_what_comes_back_does(self):
        met = 0
        for book in self.books(410, 400):
            for grace in (0, 2, 5):
                for some in ((0,), (1, 2), (0, 1, 2, 3)):
                    told = comeback(book, grace, some)
                    if told is not None:
                        moment, world = told
                        timed = waits_put_in(book, grace)
                        self.assertTrue(is_world(timed, world))
                        rows = play_in_time(timed, world, grace)
                        self.assertTrue(brings_back(book, timed, grace, rows, moment, some))
                        met += 1
        self.assertGreater(met, 300)

    def test_what_comes_back_in_some_world_is_found(self):
        rng, met = random.Random(411), 0
        for book in self.books(412, 150):
            grace = rng.randrange(0, 6)
            timed = waits_put_in(book, grace)
            for _ in range(15):
                rows = play_in_time(timed, random_world(rng, timed), grace)
                for some in ((0,), (1, 2), (0, 1, 2, 3)):
                    if any(brings_back(book, timed, grace, rows, k, some) for k in range(last(timed) + 1)):
                        self.assertIsNotNone(comeback(book, grace, some))
                        met += 1
        self.assertGreater(met, 300)


class Ends(Case):
    def test_with_ends_and_ended(self):
        rng = random.Random(403)
        for _ in range(150):
            book = random_book(rng, 3, rng.randrange(0, 9), kinds=("put", "strike", "strike", "wait", "copy"))
            for grace in (0, 1, 2, 5, GREAT):
                timed = waits_put_in(book, grace)
                self.assertEqual(with_ends(book, grace), timed)
                for one in (book, timed):
                    for moment in range(last(one) + 1):
                        self.assertEqual(ended(one, grace, moment), ended_then(one, grace, moment))
                strikes = tuple(deed[2] for deed in book[2] if deed[0] == "strike")
                self.assertEqual(ended(timed, grace, last(timed)), strikes)

    def test_a_strike_that_never_ends_and_one_that_ends_at_once(self):
        strike = ("strike", 3, 2, (0,), ((0,),))
        book = (1, 0, (("put", 0, 1, (0,), ((0,),)), strike, ("wait", 3), ("wait", 8)))
        self.assertEqual([ended(book, 6, moment) for moment in range(5)], [()] * 5)
        self.assertEqual([ended(book, 0, moment) for moment in range(5)], [(), (), (), (2,), (2,)])
        self.assertEqual([ended(book, 5, moment) for moment in range(5)], [(), (), (), (), (2,)])
        world = (((0,), ()), ((0,), ()), (), ())
        self.assertEqual([cells_in_time(book, world, 0, k) for k in range(5)], [(0,), (1,), (2,), (0,), (0,)])
        self.assertEqual([cells_in_time(book, world, 6, k) for k in range(5)], [(0,), (1,), (2,), (2,), (2,)])
        self.assertEqual(with_ends(book, 0)[2], book[2][:2] + (("wait", 3),) + book[2][2:])
        self.assertEqual(with_ends(book, 6)[2], book[2] + (("wait", 9),))

    def test_two_that_end_at_one_place(self):
        strikes = (("strike", 1, 1, (0,), ((0,),)), ("strike", 1, 2, (1,), ((1,),)), ("strike", 2, 3, (0,), ((0,),)))
        self.assertEqual(with_ends((2, 0, strikes), 5)[2], strikes + (("wait", 6), ("wait", 6), ("wait", 7)))
        self.assertEqual(ended(with_ends((2, 0, strikes), 5), 5, 4), (1, 2))
        # The wait that was put in for the first one is where the second one ends, too.
        self.assertEqual(with_ends((2, 0, strikes[:2]), 0)[2], strikes[:1] + (("wait", 1),) + strikes[1:2]
                         + (("wait", 1),))
        self.assertEqual(ended(with_ends((2, 0, strikes[:2]), 3), 3, 2), ())
        self.assertEqual(ended(with_ends((2, 0, strikes[:2]), 3), 3, 3), (1, 2))

    def test_no_letter_brings_what_has_ended(self):
        book = (2, 9, (("strike", 0, 4, (0,), ((0,),)), ("send", 0, 0, 1), ("wait", 3), ("wait", 4)))
        world = (((0,), ((0, 2), (0, 3), (0, 4))), (2, 3, 4), (), ())
        self.assertEqual([cells_in_time(book, world, 3, k) for k in range(5)],
                         [(0, 0), (4, 0), (4, 4), (0, 0), (0, 0)])

    def test_more_than_24_deeds(self):
        book = (1, 0, tuple(("strike", k, k + 1, (0,), ((0,),)) for k in range(24)))
        self.assertEqual(last(with_ends(book, 0)), 48)
        self.assertEqual(last(with_ends(book, GREAT)), 48)
        self.assertIs(is_comeback(book, 0, (0,), (48, ((((0,), ())), ()) * 24)), False)


class Edges(Case):
    def test_no_strikes_or_no_puts(self):
        for book in (EMPTY, (2, 3, (("put", 0, 1, (0, 1), ((0,),)), ("copy", 1, 0, 1))),
                     (2, 3, (("strike", 0, 1, (0, 1), ((0,),)), ("put", 1, 2, (0, 1), ((0,),))))):
            for some in subsets((0, 1)):
                self.assertEqual(least_grace(book, some), 0)
                self.assertIsNone(comeback(book, 0, some))
        self.assertEqual(with_ends(EMPTY, 5), EMPTY)

    def test_nobody_asked(self):
        self.assertEqual(least_grace(HEALED, ()), 0)
        self.assertIsNone(comeback(HEALED, 0, ()))

    def test_what_always_comes_back(self):
        book = (2, 0, (("put", 0, 1, (0, 1), ((0, 1),)), ("strike", 0, 2, (0, 1), ((0,),))))
        self.assertIsNone(least_grace(book, (1,)))
        self.assertEqual(least_grace(book, (0,)), 1)
        # The read tells the STRIKE while it stays, and what 1 holds behind its end.
        self.assertIsNone(least_grace(book, (0, 1)))
        self.assertIs(is_comeback(book, 7, (0, 1), (3, (((0, 1), ()), ((0,), ()), ()))), True)
        self.assertIs(is_comeback(book, 7, (0, 1), (2, (((0, 1), ()), ((0,), ()), ()))), False)

    def test_letters_that_come_behind_an_end(self):
        book = (1, 5, (("put", 3, 1, (0,), ((0,),)), ("strike", 4, 2, (0,), ((0,),)), ("wait", 8), ("wait", 20)))
        self.assertEqual(least_grace(book, (0,)), 5)
        book = (1, 5, (("put", 3, 1, (0,), ((0,),)), ("strike", 4, 2, (0,), ((0,),))))
        self.assertEqual(least_grace(book, (0,)), 5)
        self.assertIsNotNone(comeback(book, 4, (0,)))
        slow = (1, GREAT, (("put", 0, 1, (0,), ((0,),)), ("strike", GREAT, 2, (0,), ((0,),))))
        self.assertEqual(least_grace(slow, (0,)), 1)
        slow = (1, GREAT, (("put", GREAT, 1, (0,), ((0,),)), ("strike", GREAT, 2, (0,), ((0,),))))
        self.assertEqual(least_grace(slow, (0,)), GREAT + 1)

    def test_a_put_between_two_strikes(self):
        one = ((0,),)
        book = (2, 0, (("strike", 0, 1, (0,), one), ("put", 1, 2, (0, 1), ((0, 1),)), ("strike", 2, 3, (0,), one),
                       ("wait", 9)))
        self.assertIsNone(least_grace(book, (1,)))
        self.assertEqual(least_grace(book, (0,)), 0)
        self.assertEqual(remnants(book, 3, 3), (1,))
        self.assertEqual(remnants(book, 1, 3), ())

    def test_refusals(self):
        for moment in (-1, 6):
            self.refused(errors.NoMoment, moment, ended, HEALED, 0, moment)
            self.refused(errors.NoMoment, moment, cells_in_time, HEALED, ((),), 0, moment)
            self.refused(errors.NoMoment, moment, remnants, HEALED, 0, moment)
        for version in (-1, 0, 3):
            self.refused(errors.NoVersion, version, remnants, HEALED, version, 5)
        self.assertRaises(errors.Unfit, remnants, HEALED, 1, 5)
        for action in ((comeback, 0), (least_grace,), (is_comeback, 0)):
            args = action[1:] + ((0, 3, 4),) + ((None,) if action[0] is is_comeback else ())
            self.refused(errors.NoPlace, 3, action[0], HEALED, *args)

    def test_too_many_begins(self):
        ten = by_count(tuple(range(5)), 2)
        writes = [("strike", 0, 2, tuple(range(5)), ten), ("put", 1, 3, tuple(range(5)), ten),
                  ("strike", 2, 4, tuple(range(5)), ten)]
        ahead = ("put", 0, 1, tuple(range(5)), by_count(tuple(range(5)), 3))
        able = (5, 0, (ahead,) + tuple(writes))
        for more in (("put", 3, 5, (0, 1), ((0,), (1,))), ("strike", 3, 5, (0, 1), ((0,), (1,)))):
            many = (5, 0, able[2] + (more,))
            self.assertRaises(errors.TooMany, comeback, many, 0, (0,))
            self.assertRaises(errors.TooMany, least_grace, many, (0,))
            self.assertRaises(errors.TooMany, remnants, many, 2, 4)
            self.refused(errors.NoPlace, 5, comeback, many, 0, (5,))
            self.refused(errors.NoVersion, 9, remnants, many, 9, 4)
            self.assertRaises(errors.Unfit, remnants, many, 1, 4)
        self.assertIsNone(least_grace(able, (0,)))
        self.assertIsNotNone(comeback(able, 3, (0, 1)))
        self.assertEqual(remnants(able, 2, 4), (0, 1, 2, 3, 4))

    def test_at_the_bounds(self):
        homes, eight = tuple(range(5)), tuple(range(8))
        ten = by_count(homes, 2)
        deeds = [("put", 0, 1, eight, by_count(eight, 4)), ("send", 1, 7, 6), ("strike", 2, 2, homes, ten),
                 ("send", 2, 6, 5), ("put", 3, 3, homes, ten), ("send", 4, 0, 5), ("strike", 5, 4, homes, ten)]
        deeds += [("copy", 6 + k, k, (k + 3) % 8) for k in range(8)] + [("copy", 20 + k, 4, k) for k in (5, 6, 7)]
        deeds += [("lose", 30, 5), ("send", 31, 6, 5), ("copy", 33, 0, 1), ("copy", 34, 1, 2), ("copy", 35, 2, 3),
                  ("copy", 36, 3, 4)]
        book = (8, 12, tuple(deeds))
        self.assertEqual(last(book), 24)
        for some in (eight, (5,), (1, 2)):
            grace = least_grace(book, some)
            for one in range(0, 60, 20):
                told = comeback(book, one, some)
                self.assertEqual(told is None, grace is not None and one >= grace)
                self.assertTrue(told is None or is_comeback(book, one, some, told))


class Things(Case):
    def test_things_that_are_nearly_a_comeback(self):
        world = (((0, 2), ()), ((0, 1), ()), (), (), (), ())
        self.assertIs(is_comeback(HEALED, 6, (2,), (5, world)), True)
        self.assertIs(is_comeback(HEALED, 6, (1, 2), (5, world)), True)
        self.assertIs(is_comeback(HEALED, 6, (0,), (5, world)), False)
        for thing in (None, 0, True, "", "ab", (), (5,), [5, world], (5, world, 0), (world, 5), (5, None), (5, ()),
                      (5, list(world)), (True, world), (None, world), ("5", world), (-1, world), (7, world),
                      (4, world), (10 ** 30, world), (5, world[:5]), (5, world + ((),)), ((5, world),),
                      (5, (((0, 2), ()), ((0, 1), ()), (), (), (5,), ())), (5, ((0, 2), ()) + world[1:]),
                      (5, (((0, 2), ((0, False),)),) + world[1:])):
            self.assertIs(is_comeback(HEALED, 6, (2,), thing), False, thing)


if __name__ == "__main__":
    unittest.main()
