"""Talk, against all TALK WORLDS of many small TALKS."""

import random
import unittest
from functools import lru_cache
from itertools import product

from hintring import errors
from hintring.families import by_count
from hintring.talk import (can_be_of, deafest, heard_from, is_talk, is_talk_world, known_in, late_miss, may_be_away,
                           may_know, must_be_away, newest, settled_from, surely_known)
from tests import oracles
from tests.cases import Case
from tests.makers import random_book, subsets, when

TALK = (3, 9, (("say", 0, 0), ("send", 1, 0, 1), ("copy", 2, 1, 2), ("wait", 9)))
LATE = (3, 0, (("say", 0, 0), ("copy", 1, 0, 1), ("say", 2, 0), ("copy", 3, 1, 2)))
EMPTY = (2, 0, ())
GREAT = 10 ** 9


def random_talk(rng, many, count, kinds=("say", "say", "say", "copy", "copy", "send", "send", "lose", "wait")):
    rows, tick = [], 0
    for _ in range(count):
        tick += rng.choice((0, 0, 1, 2))
        kind = rng.choice(kinds)
        if kind in ("copy", "send"):
            rows.append((kind, tick) + tuple(rng.sample(range(many), 2)))
        else:
            rows.append((kind, tick, rng.randrange(many)) if kind != "wait" else (kind, tick))
    return many, rng.randrange(0, 4), tuple(rows)


def all_talk_worlds(talk):
    parts = [subsets(when(talk, k)) if deed[0] == "send" else [()] for k, deed in enumerate(talk[2])]
    return list(product(*parts))


def sayings_of(talk):
    return [k for k, deed in enumerate(talk[2]) if deed[0] == "say"]


def hear(talk, world):
    """For each MOMENT the sets of what each PLACE knows."""
    said = sayings_of(talk)
    known, loads, rows = [frozenset()] * talk[0], {}, []
    rows.append(tuple(known))
    for number, deed in enumerate(talk[2]):
        if deed[0] == "say":
            known[deed[2]] |= {said.index(number) + 1}
        elif deed[0] == "copy":
            known[deed[3]] |= known[deed[2]]
        elif deed[0] == "send":
            loads[number] = known[deed[2]]
        elif deed[0] == "lose":
            known[deed[2]] = frozenset()
        for source in loads:
            if number + 1 in world[source]:
                known[talk[2][source][3]] |= loads[source]
        rows.append(tuple(known))
    return rows


@lru_cache(maxsize=None)
def all_hears(talk):
    return [hear(talk, world) for world in all_talk_worlds(talk)]


def small_talks(seed, count, most=300, least=1):
    rng, found = random.Random(seed), []
    while len(found) < count:
        talk = random_talk(rng, rng.choice((2, 3, 3)), rng.randrange(0, 8))
        slots = sum(len(when(talk, k)) for k, deed in enumerate(talk[2]) if deed[0] == "send")
        if least <= 2 ** slots <= most:
            found.append(talk)
    return found


TALKS = small_talks(700, 80) + small_talks(701, 80, least=8)


def stands_of(talk):
    return [(moment, place) for moment in range(len(talk[2]) + 1) for place in range(talk[0])]


def is_lost(talk, place, start, moment):
    return any(deed[0] == "lose" and deed[2] == place for deed in talk[2][start:moment])


def believed_away(talk, rows, place, start, moment):
    said = sayings_of(talk)
    found = set()
    for near in range(talk[0]):
        ours = {at + 1 for at, k in enumerate(said) if talk[2][k][2] == near}
        if near != place and max(rows[moment][place] & ours, default=0) <= max(rows[start][place] & ours, default=0):
            found.add(near)
    return found


def steps_from(talk, stand, letters):
    """The STANDS to which a road leads by one step; [stand, whether by a letter]."""
    moment, place = stand
    if moment == len(talk[2]):
        return []
    deed = talk[2][moment]
    found = [] if deed[0] == "lose" and deed[2] == place else [(moment + 1, place)]
    if deed[0] == "copy" and deed[2] == place:
        found.append((moment + 1, deed[3]))
    if letters and deed[0] == "send" and deed[2] == place:
        found += [(later, deed[3]) for later in when(talk, moment)]
    return found


def led_to(talk, stand, letters=True):
    """All STANDS to which a road leads from this one."""
    found, fresh = {stand}, [stand]
    while fresh:
        for other in steps_from(talk, fresh.pop(), letters):
            if other not in found:
                found.add(other)
                fresh.append(other)
    return found


class AllWorlds(Case):
    def test_known_in(self):
        for talk in TALKS:
            for world in all_talk_worlds(talk)[::7]:
                rows = hear(talk, world)
                for moment, place in stands_of(talk):
                    self.assertEqual(known_in(talk, world, place, moment), tuple(sorted(rows[moment][place])))

    def test_surely_known_and_may_know(self):
        for talk in TALKS:
            for moment, place in stands_of(talk):
                told = [rows[moment][place] for rows in all_hears(talk)]
                self.assertEqual(surely_known(talk, place, moment), tuple(sorted(frozenset.intersection(*told))))
                self.assertEqual(may_know(talk, place, moment), tuple(sorted(frozenset.union(*told))))

    def test_known_by_roads(self):
        for talk in TALKS[::3]:
            begun = [(k + 1, talk[2][k][2]) for k in sayings_of(talk)]
            for letters, action in ((True, may_know), (False, surely_known)):
                reached = [led_to(talk, stand, letters) for stand in begun]
                for moment, place in stands_of(talk):
                    wanted = [at + 1 for at, stands in enumerate(reached) if (moment, place) in stands]
                    self.assertEqual(action(talk, place, moment), tuple(wanted))

    def test_deafest_and_newest_as_they_are_said(self):
        for talk in TALKS[::2]:
            for start, place in stands_of(talk):
                for letters, action in ((True, deafest), (False, newest)):
                    wanted = []
                    for number, deed in enumerate(talk[2]):
                        moments = when(talk, number) if deed[0] == "send" else []
                        wanted.append(tuple(k for k in moments
                                            if ((start, place) in led_to(talk, (k, deed[3]), letters)) == letters))
                    told = action(talk, place, start)
                    self.assertEqual(told, tuple(wanted))
                    self.assertIs(is_talk_world(talk, told), True)

    def test_who_is_believed_away(self):
        seen = set()
        for talk in TALKS:
            for start, place in stands_of(talk):
                for moment in range(len(talk[2]) + 1):
                    if moment < start or is_lost(talk, place, start, moment):
                        self.assertRaises(errors.CanNot, may_be_away, talk, place, start, moment)
                        self.assertRaises(errors.CanNot, must_be_away, talk, place, start, moment)
                        continue
                    told = [believed_away(talk, rows, place, start, moment) for rows in all_hears(talk)]
                    able, must = set.union(*told), set.intersection(*told)
                    self.assertEqual(may_be_away(talk, place, start, moment), tuple(sorted(able)))
                    self.assertEqual(must_be_away(talk, place, start, moment), tuple(sorted(must)))
                    self.assertEqual(believed_away(talk, hear(talk, deafest(talk, place, start)), place, start,
                                                   moment), able)
                    self.assertEqual(believed_away(talk, hear(talk, newest(talk, place, start)), place, start,
                                                   moment), must)
                    seen.add((len(able), len(must)))
        self.assertTrue({(2, 2), (2, 1), (1, 1), (1, 0), (0, 0)} <= seen)

    def test_heard_from(self):
        seen = set()
        for talk in TALKS:
            for start, place in stands_of(talk):
                for near in range(talk[0]):
                    if near == place:
                        self.assertRaises(errors.CanNot, heard_from, talk, place, near, start)
                        continue
                    able = [moment for moment in range(start, len(talk[2]) + 1)
                            if not is_lost(talk, place, start, moment)
                            and not any(near in believed_away(talk, rows, place, start, moment)
                                        for rows in all_hears(talk))]
                    wanted = min(able, default=None)
                    self.assertEqual(heard_from(talk, place, near, start), wanted)
                    seen.add(wanted is None)
        self.assertEqual(seen, {True, False})

    def test_settled_from(self):
        seen = set()
        for talk in TALKS:
            said = len(sayings_of(talk))
            for some in subsets(range(talk[0])):
                for number in range(1, said + 2):
                    good = [all(any(one >= number for one in rows[k][place]) for rows in all_hears(talk)
                                for place in some) for k in range(len(talk[2]) + 1)]
                    able = [k for k in range(len(good)) if all(good[k:])]
                    self.assertEqual(settled_from(talk, some, number), min(able, default=None))
                    seen.add(min(able, default=None))
        self.assertTrue({None, 0, 1, 2, 3, 4} <= seen)


def of_by_search(talk, asks, sayings):
    """Whether the asks can be so: all that can be known, MOMENT by MOMENT, heard of in other
    ways, too; only what matters to the asks is kept."""
    said = sayings_of(talk)
    now = heard_besides({((frozenset(),) * talk[0], ())}, 0)
    now = kept(now, asks, sayings, 0)
    for number, deed in enumerate(talk[2]):
        behind = {step(talk, said, number, deed, known, loads) for known, loads in now}
        for source in sayings_or_sends(talk, number):
            if number + 1 in when(talk, source):
                behind |= {(told(known, talk[2][source][3], dict(loads)[source]), loads) for known, loads in behind}
        ours = len([k for k in said if k <= number])
        now = kept(heard_besides(behind, ours), asks, sayings, number + 1)
    return bool(now)


def sayings_or_sends(talk, number):
    return [k for k in range(number + 1) if talk[2][k][0] == "send"]


def told(known, place, more):
    return known[:place] + (known[place] | more,) + known[place + 1:]


def step(talk, said, number, deed, known, loads):
    if deed[0] == "say":
        known = told(known, deed[2], frozenset({said.index(number) + 1}))
    elif deed[0] == "copy":
        known = told(known, deed[3], known[deed[2]])
    elif deed[0] == "send":
        loads += ((number, known[deed[2]]),)
    elif deed[0] == "lose":
        known = known[:deed[2]] + (frozenset(),) + known[deed[2] + 1:]
    return known, loads


def heard_besides(rows, ours):
    """Each PLACE may hear of each SAYING that was said."""
    found = set(rows)
    for saying in range(1, ours + 1):
        for place in range(len(next(iter(rows))[0]) if rows else 0):
            found |= {(told(known, place, frozenset({saying})), loads) for known, loads in found}
    return found


def kept(rows, asks, sayings, moment):
    ours = [(place, saying) for (time, place), saying in zip(asks, sayings) if time == moment]
    return {(known, loads) for known, loads in rows
            if all(max(known[place], default=0) == saying for place, saying in ours)}


class Of(Case):
    def random_cases(self, seed, count):
        rng, found = random.Random(seed), []
        kinds = ("say", "say", "copy", "copy", "copy", "send", "lose")
        while len(found) < count:
            talk = random_talk(rng, rng.choice((2, 2, 3)), rng.randrange(1, 6), kinds)
            kinds_of = [deed[0] for deed in talk[2]]
            if kinds_of.count("say") <= 2 and kinds_of.count("send") <= 1:
                asks = tuple(rng.choice(stands_of(talk)) for _ in range(rng.choice((1, 2, 2, 3))))
                found.append((talk, asks))
        return found

    def test_can_be_of(self):
        seen = []
        for talk, asks in self.random_cases(710, 120):
            said = len(sayings_of(talk))
            for sayings in product(range(said + 2), repeat=len(asks)):
                wanted = of_by_search(talk, asks, sayings)
                self.assertIs(can_be_of(talk, asks, sayings), wanted, (talk, asks, sayings))
                seen.append(wanted)
        self.assertTrue(seen.count(True) > 150 and seen.count(False) > 500)

    def test_late_miss(self):
        rng, seen = random.Random(711), set()
        for talk, asks in self.random_cases(712, 200):
            book = self.book_with(rng, len(asks) - 1)
            said = len(sayings_of(talk))
            families = tuple(self.pair(rng) for _ in range(said + 1))
            lots = tuple(rng.choice(subsets(range(3))[1:]) for _ in range(said + 1))
            for version in {1, 2, 9}:
                able = [sayings for sayings in product(range(said + 1), repeat=len(asks))
                        if can_be_of(talk, asks, sayings) and self.misses(book, families, lots, sayings, version)]
                wanted = min(able, default=None)
                self.assertEqual(late_miss(talk, book, asks, families, lots, version), wanted)
                seen.add(wanted)
        self.assertTrue(None in seen and len(seen) > 10)

    def book_with(self, rng, writes):
        while True:
            book = random_book(rng, 3, 4, life=0, kinds=("put", "strike", "copy", "lose"))
            if sum(oracles.is_written(deed) for deed in book[2]) == writes:
                # With unlike ticks a letter can come at one MOMENT alone, so the WORLDS stay few.
                return book[:2] + (tuple(deed[:1] + (k,) + deed[2:] for k, deed in enumerate(book[2])),)

    def pair(self, rng):
        homes = rng.choice(subsets(range(3))[1:])
        return homes, by_count(homes, rng.randrange(1, len(homes) + 1))

    def misses(self, book, families, lots, sayings, version):
        deeds, met = [], 0
        for deed in book[2]:
            if oracles.is_written(deed):
                deed = deed[:3] + families[sayings[met]]
                met += 1
            deeds.append(deed)
        cells = oracles.last_cells((book[0], 0, tuple(deeds)))
        return any(oracles.read(row, lots[sayings[-1]]) < version for row in cells)

    def test_edges(self):
        self.assertIs(can_be_of(LATE, (), ()), True)
        self.assertIs(can_be_of(LATE, ((0, 0),), (0,)), True)
        self.assertIs(can_be_of(LATE, ((0, 0),), (1,)), False)
        self.assertIs(can_be_of(LATE, ((1, 2),), (1,)), True)
        for saying in (-1, 3, GREAT):
            self.assertIs(can_be_of(LATE, ((4, 2),), (saying,)), False)
        self.assertIs(can_be_of(LATE, ((4, 2), (4, 2)), (1, 2)), False)
        self.assertIs(can_be_of(LATE, ((4, 2), (4, 2)), (2, 2)), True)

    def test_late_miss_edges(self):
        one, two = ((0,), ((0,),)), ((1,), ((1,),))
        args = ((one, one, two), ((0,), (0,), (1,)))
        none = (2, 0, (("copy", 0, 0, 1),))
        self.assertEqual(late_miss(LATE, none, ((4, 2),), *args, 1), (1,))
        self.assertEqual(late_miss(LATE, none, ((0, 2),), *args, 1), (0,))
        book = (2, 0, (("put", 0, 1, (0,), ((0,),)),))
        self.assertEqual(late_miss(LATE, book, ((0, 0), (0, 0)), *args, 2), (0, 0))
        self.assertIsNone(late_miss(LATE, book, ((0, 0), (0, 0)), *args, 1))
        homeless = ((), ((),))
        self.assertEqual(late_miss(EMPTY, book, ((0, 0), (0, 0)), (homeless,), ((0,),), 1), (0, 0))

    def test_too_many_begins(self):
        args = ((((0,), ((0,),)),) * 6, ((0,),) * 6)
        says = (1, 0, (("say", 0, 0),) * 5)
        puts = tuple(("put", 0, k + 1, (0,), ((0,),)) for k in range(6))
        self.assertEqual(late_miss(says, (1, 0, puts[:3]), ((5, 0),) * 4, *args, 9), (5,) * 4)
        self.assertRaises(errors.TooMany, late_miss, says, (1, 0, puts[:4]), ((5, 0),) * 5, *args, 1)
        self.refused(errors.NoVersion, 0, late_miss, says, (1, 0, puts[:4]), ((5, 0),) * 5, *args, 0)
        self.refused(errors.NoPlace, 1, late_miss, says, (1, 0, puts[:4]), ((9, 0),) + ((5, 1),) * 4, *args, 0)
        self.refused(errors.NoMoment, 9, late_miss, says, (1, 0, puts[:4]), ((9, 0),) + ((5, 0),) * 4, *args, 0)
        two = (1, 0, (("say", 0, 0),))
        many = tuple(("put", 0, k + 1, (0,), ((0,),)) for k in range(11))
        self.assertIsNone(late_miss(two, (1, 0, many[:10]), ((1, 0),) * 11, *args, 1))
        self.assertRaises(errors.TooMany, late_miss, two, (1, 0, many), ((1, 0),) * 12, *args, 1)


class Edges(Case):
    def test_a_letter_that_never_comes(self):
        self.assertEqual(known_in(TALK, ((), (), (), ()), 1, 4), ())
        self.assertEqual((surely_known(TALK, 1, 4), may_know(TALK, 1, 4)), ((), (1,)))
        never = (2, 0, (("say", 0, 0), ("wait", 1), ("send", 2, 0, 1)))
        self.assertEqual((may_know(never, 1, 3), may_know(never, 1, 2)), ((1,), ()))
        self.assertEqual(may_be_away(never, 1, 0, 3), (0,))
        self.assertEqual(must_be_away(never, 1, 0, 3), ())

    def test_moment_0(self):
        self.assertEqual((surely_known(TALK, 0, 0), may_know(TALK, 0, 0)), ((), ()))
        self.assertEqual(deafest(TALK, 2, 0), ((),) * 4)
        self.assertEqual(newest(TALK, 2, 0), ((), (2, 3, 4), (), ()))
        self.assertEqual(may_be_away(EMPTY, 0, 0, 0), (1,))
        self.assertEqual(settled_from(EMPTY, (), 1), 0)
        self.assertIsNone(settled_from(EMPTY, (0,), 1))
        self.assertIsNone(settled_from(LATE, (0,), GREAT))

    def test_a_place_lost_between(self):
        lost = (2, 0, (("say", 0, 0), ("copy", 0, 0, 1), ("lose", 0, 1), ("copy", 0, 0, 1)))
        self.assertEqual([surely_known(lost, 1, k) for k in range(5)], [(), (), (1,), (), (1,)])
        self.assertEqual(heard_from(lost, 1, 0, 0), 2)
        self.assertIsNone(heard_from(lost, 1, 0, 2))
        self.assertEqual(heard_from(lost, 1, 0, 3), 4)
        self.assertRaises(errors.CanNot, may_be_away, lost, 1, 2, 3)
        self.assertRaises(errors.CanNot, must_be_away, lost, 1, 0, 4)
        self.assertEqual(may_be_away(lost, 1, 3, 4), ())
        self.assertEqual(settled_from(lost, (0, 1), 1), 4)
        self.assertEqual(may_be_away(lost, 0, 2, 3), (1,))

    def test_refusals(self):
        for action in (surely_known, may_know, deafest, newest):
            self.refused(errors.NoPlace, 3, action, TALK, 3, 9)
            self.refused(errors.NoMoment, 5, action, TALK, 2, 5)
            self.refused(errors.NoMoment, -1, action, TALK, 2, -1)
        self.refused(errors.NoPlace, -1, known_in, TALK, ((), (), (), ()), -1, 9)
        self.refused(errors.NoMoment, 9, known_in, TALK, ((), (), (), ()), 0, 9)
        for action in (may_be_away, must_be_away):
            self.refused(errors.NoPlace, 3, action, TALK, 3, 9, 9)
            self.refused(errors.NoMoment, 9, action, TALK, 0, 9, -1)
            self.refused(errors.NoMoment, -1, action, TALK, 0, 4, -1)
            self.assertRaises(errors.CanNot, action, TALK, 0, 4, 3)
        self.refused(errors.NoPlace, 3, heard_from, TALK, 3, 4, 9)
        self.refused(errors.NoPlace, 4, heard_from, TALK, 0, 4, 9)
        self.refused(errors.NoMoment, 9, heard_from, TALK, 0, 0, 9)
        self.assertRaises(errors.CanNot, heard_from, TALK, 0, 0, 4)
        self.refused(errors.NoPlace, 5, settled_from, TALK, (0, 5, 6), 1)
        self.refused(errors.NoPlace, 3, can_be_of, TALK, ((9, 0), (0, 3)), (0, 0))
        self.refused(errors.NoMoment, 9, can_be_of, TALK, ((9, 0), (7, 2)), (0, 0))

    def test_at_the_bounds(self):
        deeds = tuple(("say", k, k) for k in range(8)) + tuple(("copy", 8 + k, k, k + 1) for k in range(7))
        deeds += tuple(("send", 15 + k, 7 - k, 6 - k) for k in range(7)) + (("lose", 30, 3), ("wait", GREAT))
        talk = (8, GREAT, deeds)
        self.assertIs(is_talk(talk), True)
        self.assertEqual(surely_known(talk, 7, 24), tuple(range(1, 9)))
        self.assertEqual((surely_known(talk, 3, 24), may_know(talk, 3, 24)), ((), tuple(range(1, 9))))
        self.assertEqual(must_be_away(talk, 0, 15, 24), ())
        self.assertEqual(may_be_away(talk, 0, 15, 24), tuple(range(1, 8)))
        self.assertEqual(heard_from(talk, 7, 0, 8), 15)
        self.assertEqual(settled_from(talk, (4, 5, 6, 7), 5), 8)


class Things(Case):
    def test_is_talk(self):
        for thing in (TALK, LATE, EMPTY, (1, 0, (("say", 0, 0),) * 50), (10 ** 30, 10 ** 30, (("lose", 5, 10 ** 29),))):
            self.assertIs(is_talk(thing), True)
        for thing in (None, 0, True, "", "abc", (), (2, 0), [2, 0, ()], (2, 0, []), (2, 0, (), ()), (0, 0, ()),
                      (True, 0, ()), (2, -1, ()), (2, True, ()), (2, None, ()), ("2", 0, ()), (2, 0, None),
                      (2, 0, ("say", 0, 0)), (2, 0, (["say", 0, 0],)), (2, 0, (("say", 0),)), (2, 0, (("say", 0, 2),)),
                      (2, 0, (("say", 0, -1),)), (2, 0, (("say", 0, True),)), (2, 0, (("say", -1, 0),)),
                      (2, 0, (("say", True, 0),)), (2, 0, (("say", 0, 0, 1),)), (2, 0, (("Say", 0, 0),)),
                      (2, 0, (("put", 0, 1, (0,), ((0,),)),)), (2, 0, (("strike", 0, 1, (), ((),)),)),
                      (2, 0, (("copy", 0, 1, 1),)), (2, 0, (("send", 0, 1),)), (2, 0, (("lose", 0, 5),)),
                      (2, 0, (("wait", 1), ("say", 0, 0))), (2, 0, (("wait",),)), (2, 0, (("wait", 0, 0),)),
                      (2, 0, (None,)), (2, 0, ((None, 0, 0),)), (2, 0, ("say",)), (2, 0, ((["say"], 0, 0),))):
            self.assertIs(is_talk(thing), False, thing)

    def test_is_talk_world(self):
        for talk in TALKS[::9]:
            for world in all_talk_worlds(talk)[:20]:
                self.assertIs(is_talk_world(talk, world), True)
        for thing in (None, 0, True, "", "abcd", (), ((), (), ()), ((),) * 5, [(), (2,), (), ()], ((), [2], (), ()),
                      ((), (2, 2), (), ()), ((), (3, 2), (), ()), ((), (1,), (), ()), ((), (5,), (), ()),
                      ((), (True,), (), ()), ((), ("2",), (), ()), ((), 2, (), ()), ((), None, (), ()),
                      ((), (2,), (3,), ()), ((1,), (2,), (), ()), ((), (2,), (), None), ((), ((2,),), (), ()),
                      ((), (2,), [], ())):
            self.assertIs(is_talk_world(TALK, thing), False, thing)


if __name__ == "__main__":
    unittest.main()
