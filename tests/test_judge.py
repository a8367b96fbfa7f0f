"""One judge: each kind of CLAIM against all WORLDS, cuts, LOTS, FATES or HOURS, with its PAPERS and REASONS."""

import random
import unittest
from itertools import combinations, permutations, product

from hintring import errors
from hintring.books import last, versions
from hintring.families import by_count
from hintring.hours import hours
from hintring.judge import (first_fallen, is_claim, is_paper_against, is_reason_for, paper_against, reason_for, stands)
from hintring.losses import with_cut
from hintring.moves import is_losing_lot, is_short_lot, origins
from tests import fates, oracles
from tests.cases import Case
from tests.makers import all_worlds, lots_below, random_book, random_world, small_books, subsets
from tests.runs_of_webs import random_lots, random_web
from tests.stores import owners, points_of, random_store, random_trial, trial_by_acts, weak_lots

TWO_OF = ((0, 1), (0, 2), (1, 2))
PLAIN = (3, 2, (("put", 0, 1, (0, 1, 2), TWO_OF),))
TAKEN_OVER = (4, 2, (("put", 0, 1, (0, 1, 2), TWO_OF), ("copy", 4, 0, 3)))
RING = (12, ((0, 0), (3, 1), (6, 2), (9, 3)))
CALM = (3, 5, (RING,), (("put", 0, 1, 7, 0, 2),))
MOVE = ((0, 1, 2), (0, 1, 3), ((0, 3),))
HEIRED = ((0, 1, 2), (0, 1, 3), ((2, 3),))
WEB = (3, (("meet", (0, 1), 4, 0, 100), ("meet", (1, 2), 3, 0, 100)))
ONES = ((0,), (1,), (2,))
JOINED = (3, (("take", 0, TWO_OF), ("ask", 1, TWO_OF)))
LOST = (3, (("take", 0, TWO_OF), ("lose", 0), ("ask", 1, TWO_OF)))
STANDING = (
    ("kept", PLAIN, (0, 1), 1), ("silent", PLAIN, (0, 1), 0), ("never", PLAIN, ((1, (0,), 0), (1, (1,), 0))),
    ("rising", PLAIN, ((1, (0,)), (1, (0, 1)))), ("bears", PLAIN, (0, 1, 2), 3, 1, 1), ("safe", CALM, (1, 0, 2, 0, 2)),
    ("moved", HEIRED, 2, 2), ("heirs", HEIRED), ("meet", TWO_OF, TWO_OF), ("joined", JOINED),
    ("within", WEB, ONES, ONES, 10, 7))
FALLEN = (
    ("kept", PLAIN, (0,), 1), ("silent", PLAIN, (0,), 1), ("never", PLAIN, ((1, (0,), 0),)),
    ("rising", PLAIN, ((1, (0,)), (1, (1,)))), ("bears", PLAIN, (0, 1, 2), 3, 1, 2), ("safe", CALM, (1, 0, 1, 0, 2)),
    ("moved", MOVE, 2, 2), ("heirs", MOVE), ("meet", ONES, ONES), ("joined", LOST), ("within", WEB, ONES, ONES, 10, 6))
SEVEN = tuple(range(7))
GREAT = 10 ** 9


class Judged(Case):
    def agree(self, claim, wanted, is_paper):
        """The CLAIM stands exactly if wanted; if not, what is told is a PAPER, by a check of its own."""
        self.assertIs(is_claim(claim), True, claim)
        self.assertIs(stands(claim), wanted, claim)
        paper = paper_against(claim)
        self.assertEqual(paper is None, wanted, claim)
        if paper is not None:
            self.assertTrue(is_paper(paper), (claim, paper))
            self.assertIs(is_paper_against(claim, paper), True)
            self.assertEqual(paper_against(claim), paper)
        return wanted

    def papers(self, claim, things, is_paper):
        """Each of these is told to be a PAPER exactly if it is one; whether any is."""
        met = [thing for thing in things if is_paper(thing)]
        for thing in things:
            self.assertIs(is_paper_against(claim, thing), thing in met, (claim, thing))
        return len(met) > 0


class Worlds(Judged):
    BOOKS = small_books(1700, 70, 220, deeds=(1, 2, 3, 4))

    def rows(self, book):
        worlds = list(all_worlds(book))
        return worlds, {world: oracles.play(book, world)[0] for world in worlds}

    def check(self, claim, worlds, is_paper):
        return self.agree(claim, not self.papers(claim, worlds, is_paper), is_paper)

    def test_kept_and_silent(self):
        seen = []
        for book in self.BOOKS:
            worlds, rows = self.rows(book)
            for some in lots_below(book[0])[:5]:
                for version in (1,) + versions(book):
                    told = self.check(("kept", book, some, version), worlds,
                                      lambda world: oracles.read(rows[world][-1], some) < version)
                    seen.append(("kept", told))
                for version in (0,) + versions(book):
                    claim = ("silent", book, some, version)
                    told = self.check(claim, worlds, lambda world: oracles.read(rows[world][-1], some) == version)
                    seen.append(("silent", told))
                    self.assertIs(stands(("never", book, ((last(book), some, version),))), told)
        self.assertTrue(min(seen.count((word, told)) for word in ("kept", "silent") for told in (True, False)) > 60)

    def test_never_and_rising(self):
        rng, seen = random.Random(1701), []
        for book in self.BOOKS:
            worlds, rows = self.rows(book)
            for _ in range(8):
                moments = sorted(rng.randrange(last(book) + 1) for _ in range(rng.choice((0, 1, 2, 3, 3))))
                asks = tuple((moment, rng.choice(lots_below(book[0])[1:])) for moment in moments)
                row = rows[rng.choice(worlds)]
                log = tuple((moment, some, oracles.read(row[moment], some) if rng.random() < 0.8 else rng.randrange(4))
                            for moment, some in asks)
                told = self.check(("never", book, log), worlds, lambda world: all(
                    oracles.read(rows[world][moment], some) == version for moment, some, version in log))
                seen.append(("never", told))
                told = self.check(("rising", book, asks), worlds, lambda world: self.falls(rows[world], asks))
                seen.append(("rising", told))
        self.assertTrue(min(seen.count((word, told)) for word in ("never", "rising") for told in (True, False)) > 30)

    def falls(self, row, asks):
        told = [oracles.read(row[moment], some) for moment, some in asks]
        return any(told[one] > told[other] for one in range(len(told)) for other in range(one + 1, len(told)))

    def test_rising_of_larger_books(self):
        rng, fell = random.Random(1702), 0
        for _ in range(300):
            book = random_book(rng, 3, rng.randrange(4, 10), kinds=("put", "send", "send", "copy", "lose", "wait",
                                                                    "put"))
            moments = sorted(rng.randrange(last(book) + 1) for _ in range(rng.randrange(2, 5)))
            asks = tuple((moment, rng.choice(lots_below(3)[1:])) for moment in moments)
            paper = paper_against(("rising", book, asks))
            self.assertEqual(paper is None, stands(("rising", book, asks)))
            if paper is not None:
                self.assertTrue(self.falls(oracles.play(book, paper)[0], asks))
                fell += 1
        self.assertGreater(fell, 60)

    def test_bears_by_all_cuts(self):
        rng, seen = random.Random(1703), []
        for book in small_books(1704, 60, 10 ** 9, many=(2, 3, 3), deeds=(1, 2, 3),
                                kinds=("put", "put", "strike", "copy", "copy", "lose")):
            for _ in range(3):
                owners_of = tuple(sorted(rng.sample(range(book[0]), rng.randrange(1, book[0] + 1))))
                asked = rng.randrange(1, len(owners_of) + 1)
                version = rng.choice((1,) + versions(book) + (9,))
                points = list(product(range(last(book) + 1), range(book[0])))
                for losses in range(3):
                    fallen = any(oracles.misses(with_cut(book, cut), some, version)
                                 for some in combinations(owners_of, asked)
                                 for size in range(losses + 1) for cut in combinations(points, size))
                    claim = ("bears", book, owners_of, asked, version, losses)
                    seen.append(self.agree(claim, not fallen, lambda paper: self.is_broken(claim, paper)))
                    if losses == 0:
                        kept = [stands(("kept", book, some, version)) for some in combinations(owners_of, asked)]
                        self.assertIs(stands(claim), all(kept))
                    self.bent_papers(rng, claim, paper_against(claim))
        self.assertTrue(seen.count(True) > 25 and seen.count(False) > 100)

    def is_broken(self, claim, paper):
        """Whether a triple is a PAPER against "bears", told by hand."""
        _, book, owners_of, asked, version, losses = claim
        some, cut, world = paper
        if some not in combinations(owners_of, asked) or len(cut) > losses or list(cut) != sorted(set(cut)):
            return False
        if not all(0 <= moment <= last(book) and 0 <= place < book[0] for moment, place in cut):
            return False
        parted = with_cut(book, cut)
        return len(world) == last(parted) and oracles.read(oracles.play(parted, world)[0][-1], some) < version

    def bent_papers(self, rng, claim, paper):
        if paper is None:
            return
        book, (some, cut, world) = claim[1], paper
        for thing in ((some, cut), (some, cut, world, 0), (list(some), cut, world), (some, list(cut), world),
                      (some, cut, world + ((),)), (some + (9,), cut, world), (some[1:], cut, world),
                      (some, ((-1, 0),), world), (some, ((last(book) + 1, 0),), world), (some, ((0, book[0]),), world),
                      (some, ((0, 0), (0, 0)), world), (some, ((0, True),), world), (some, ((0,),), world), None, True):
            self.assertIs(is_paper_against(claim, thing), False)
        more = ((0, 0),) * (claim[5] + 1)
        self.assertIs(is_paper_against(claim, (some, more, world)), False)


class Others(Judged):
    def test_safe(self):
        rng, seen = random.Random(1705), []
        for _ in range(120):
            store = random_store(rng)
            trial = random_trial(rng, store)
            weak = any(weak_lots(store, trial, point) for point in range(points_of(store)))
            claim = ("safe", store, trial)
            seen.append(self.agree(claim, not weak, lambda paper: self.is_weak(store, trial, paper)))
            for point in range(points_of(store)):
                for some in weak_lots(store, trial, point)[:2]:
                    book = trial_by_acts(store, trial, point)
                    world = random_world(rng, book, 0.9)
                    self.assertIs(is_paper_against(claim, (point, some, world)),
                                  self.is_weak(store, trial, (point, some, world)))
        self.assertTrue(seen.count(True) > 20 and seen.count(False) > 20)

    def is_weak(self, store, trial, paper):
        point, some, world = paper
        line = sorted(owners(store, trial[3], point))
        if some not in combinations(line, min(trial[4], len(line))):
            return False
        return oracles.read(oracles.play(trial_by_acts(store, trial, point), world)[0][-1], some) == 0

    def random_move(self, rng):
        old, new = (tuple(sorted(rng.sample(range(5), rng.randrange(1, 4)))) for _ in range(2))
        return old, new, tuple(tuple(rng.sample(range(5), 2)) for _ in range(rng.randrange(0, 4)))

    def test_moved_and_heirs(self):
        rng, seen = random.Random(1706), []
        for _ in range(200):
            move = self.random_move(rng)
            old, new, _ = move
            lots = subsets(range(6))
            need, reads = rng.randrange(1, len(old) + 1), rng.randrange(1, len(new) + 1)
            losing = lambda lot: is_losing_lot(move, need, reads, lot)
            claim = ("moved", move, need, reads)
            seen.append(("moved", self.agree(claim, not self.papers(claim, lots, losing), losing)))
            rows = [row for row in permutations(old, len(new))
                    if all(one in origins(move, place) for place, one in zip(new, row))]
            short = lambda lot: is_short_lot(move, lot)
            claim = ("heirs", move)
            seen.append(("heirs", self.agree(claim, len(rows) > 0, short)))
            self.assertIs(self.papers(claim, lots, short), len(rows) == 0)
            if rows:
                reason = reason_for(claim)
                self.assertIn(tuple(one for _, one in reason), rows)
                self.assertIs(is_reason_for(claim, reason), True)
            else:
                self.assertRaises(errors.Unfit, reason_for, claim)
            for row in permutations(range(5), len(new)):
                self.assertIs(is_reason_for(claim, tuple(zip(new, row))), row in rows)
        self.assertTrue(min(seen.count((word, told)) for word in ("moved", "heirs") for told in (True, False)) > 30)

    def test_meet(self):
        rng, seen = random.Random(1707), []
        for _ in range(250):
            family, other = random_lots(rng, 5), random_lots(rng, 5)
            pairs = list(product(subsets(range(5))[::3] + list(family), subsets(range(5))[::3] + list(other)))
            is_apart = lambda pair: pair[0] in family and pair[1] in other and not set(pair[0]) & set(pair[1])
            claim = ("meet", family, other)
            seen.append(self.agree(claim, not self.papers(claim, pairs, is_apart), is_apart))
        self.assertTrue(seen.count(True) > 20 and seen.count(False) > 20)
        self.assertEqual(paper_against(("meet", ((),), ((7,),))), ((), (7,)))

    def test_joined(self):
        rng, seen = random.Random(1708), []
        for _ in range(250):
            plan = fates.random_plan(rng)
            claim = ("joined", plan)
            is_passing = lambda fate: fates.is_legal(plan, fate) == (True, True)
            seen.append(self.agree(claim, not fates.can_pass_by_fates(plan), is_passing))
            self.papers(claim, [fates.random_fate(rng, plan, eager) for eager in (0.3, 0.7, 1)], is_passing)
        self.assertTrue(seen.count(True) > 40 and seen.count(False) > 40)

    def test_within(self):
        rng, seen = random.Random(1709), []
        for _ in range(250):
            web = random_web(rng)
            family, lots = random_lots(rng, web[0]), random_lots(rng, web[0])
            tick, ticks = rng.randrange(0, 8), rng.randrange(0, 9)
            rows = {lot: hours(web, lot, tick) for lot in subsets(range(web[0]))}
            none_by = lambda row, some: all(row[place] == -1 or row[place] > tick + ticks for place in some)
            is_late = lambda pair: pair[0] in family and pair[1] in lots and none_by(rows[pair[0]], pair[1])
            pairs = list(product(subsets(range(web[0])), repeat=2))
            claim = ("within", web, family, lots, tick, ticks)
            seen.append(self.agree(claim, not self.papers(claim, pairs, is_late), is_late))
        self.assertTrue(seen.count(True) > 30 and seen.count(False) > 30)
        for family, lots in ((((),), ONES), (ONES, ((),))):
            self.assertIs(stands(("within", WEB, family, lots, 0, 99)), False)


class Reasons(Judged):
    def is_reason(self, book, some, version, thing):
        """Whether a pair (number, roads) is a REASON, road by road."""
        number, roads = thing
        if not 0 <= number < last(book) or not oracles.is_written(book[2][number]) or book[2][number][2] < version:
            return False
        homes, family = book[2][number][3:]
        for road in roads:
            if not road or road[0] not in homes or road[-1] not in some:
                return False
            if road not in oracles.all_roads(book, number + 1, road[0], last(book)):
                return False
        return all(any(road[0] in lot for road in roads) for lot in family)

    def test_kept_by_roads(self):
        rng, seen = random.Random(1710), []
        for _ in range(250):
            book = random_book(rng, 3, rng.randrange(1, 6), kinds=("put", "put", "strike", "copy", "copy", "lose",
                                                                   "wait"))
            some, version = rng.choice(lots_below(3)), rng.choice((1,) + versions(book))
            claim = ("kept", book, some, version)
            if stands(claim):
                reason = reason_for(claim)
                self.assertTrue(self.is_reason(book, some, version, reason), (claim, reason))
                self.assertEqual(reason_for(claim), reason)
            else:
                self.assertRaises(errors.Unfit, reason_for, claim)
            met = False
            for thing in self.things(rng, book):
                wanted = self.is_reason(book, some, version, thing)
                self.assertIs(is_reason_for(claim, thing), wanted, (claim, thing))
                met = met or wanted
            self.assertTrue(stands(claim) or not met)
            seen.append((stands(claim), met))
        self.assertTrue(seen.count((True, True)) > 30 and seen.count((False, False)) > 30)

    def things(self, rng, book):
        """What might be REASONS: some roads each, from all PLACES."""
        found = [(-1, ()), (last(book), ((0,),))]
        for number in range(last(book)):
            roads = [road for place in range(book[0]) for road in oracles.all_roads(book, number + 1, place,
                                                                                    last(book))]
            for size in (0, 1, 2, 3, 5):
                found.append((number, tuple(rng.choice(roads) for _ in range(size)) if roads else ()))
            found.append((number, tuple(roads)))
        return found

    def test_other_words_and_fallen(self):
        for claim in STANDING + FALLEN:
            if claim[0] not in ("kept", "heirs"):
                self.assertRaises(errors.Unfit, reason_for, claim)
                self.assertRaises(errors.Unfit, is_reason_for, claim, None)
        for claim in (FALLEN[0], FALLEN[7]):
            self.assertRaises(errors.Unfit, reason_for, claim)
            for thing in (None, (), (0, ()), (0, ((0,),)), ((0, 0), (1, 1), (3, 2))):
                self.assertIs(is_reason_for(claim, thing), False)

    def test_no_reasons(self):
        claim = ("kept", PLAIN, (0, 1), 1)
        for thing in ((0, ((0,), (1,))), (0, ((1,), (0,))), (0, ((0,), (1,), (0,)))):
            self.assertIs(is_reason_for(claim, thing), True)
        for thing in (None, 0, True, "ab", (), [0, ((0,), (1,))], (0, [(0,), (1,)]), (0, ([0], (1,))), (0, ((0,),)),
                      (0, ()), (0, ((0,), (2,))), (0, ((0,), (1,), (2,))), (0, ((0,), (1,), (0, 0))),
                      (0, ((0,), (True,))),
                      (False, ((0,), (1,))), (1, ((0,), (1,))), (-1, ((0,), (1,))), (0, ((0,), ())), (0, ((0,), None)),
                      (0, ((0,), (7,))), (0, ((0,), (-1,))), (0, ((0,), (1,)), 0), (10 ** 30, ()), ("0", ())):
            self.assertIs(is_reason_for(claim, thing), False, thing)
        self.assertIs(is_reason_for(("kept", PLAIN, (0, 1), 2), (0, ((0,), (1,)))), False)


class Claims(Judged):
    def test_standing_and_fallen(self):
        for claim in STANDING:
            self.assertEqual((is_claim(claim), stands(claim), paper_against(claim)), (True, True, None), claim)
        for claim in FALLEN:
            paper = paper_against(claim)
            self.assertEqual((is_claim(claim), stands(claim), is_paper_against(claim, paper)), (True, False, True),
                             claim)

    def test_first_fallen(self):
        self.assertIsNone(first_fallen(()))
        self.assertIsNone(first_fallen(STANDING))
        for at, claim in enumerate(FALLEN):
            rows = STANDING[:at] + (claim,) + FALLEN
            number, paper = first_fallen(rows)
            self.assertEqual(number, at)
            self.assertIs(is_paper_against(claim, paper), True)
            self.assertEqual(first_fallen([list(one) for one in rows]), (number, paper))
        self.assertRaises(errors.Unfit, first_fallen, FALLEN + (("sure", PLAIN),))
        self.assertRaises(errors.Unfit, first_fallen, (None,))

    def test_strange_claims(self):
        for claim in (None, 0, True, "", "kept", (), ("kept",), ("sure", PLAIN), (None, PLAIN), ((), PLAIN),
                      (("kept",),),
                      ("Kept", PLAIN, (0, 1), 1), (["kept"], PLAIN, (0, 1), 1)):
            self.assertIs(is_claim(claim), False, claim)
            for action, args in ((stands, ()), (paper_against, ()), (is_paper_against, (None,)), (reason_for, ()),
                                 (is_reason_for, (None,))):
                self.assertRaises(errors.Unfit, action, claim, *args)

    def test_wrong_lengths_and_lists(self):
        for claim in STANDING + FALLEN:
            for thing in (claim[:-1], claim + (0,), claim + ((),), list(claim), claim[:1] + claim[2:], claim[1:]):
                self.assertIs(is_claim(thing), False, thing)
            for at in range(1, len(claim)):
                for part in (None, True, "ab", -1, (), (None,), [claim[at]]):
                    thing = claim[:at] + (part,) + claim[at + 1:]
                    self.assertIs(is_claim(thing), thing in self.such, thing)
                if isinstance(claim[at], tuple):
                    self.assertIs(is_claim(claim[:at] + (list(claim[at]),) + claim[at + 1:]), False)
            self.assertIs(stands([list(part) if isinstance(part, tuple) else part for part in claim]),
                          claim in STANDING)

    # Nothing for a LOT, a LOG, asks: such CLAIMS there are.
    such = [("kept", PLAIN, (), 1), ("silent", PLAIN, (), 0), ("silent", PLAIN, (), 1), ("never", PLAIN, ()),
            ("rising", PLAIN, ())]

    def test_members_that_are_nearly_such(self):
        put = PLAIN[2][0]
        bad = (
            ("kept", (3, 2, (put, put)), (0,), 1), ("kept", PLAIN, (0, 3), 1), ("kept", PLAIN, (1, 0), 1),
            ("kept", PLAIN, (0, 0), 1), ("kept", PLAIN, (True,), 1), ("kept", PLAIN, (0,), 0),
            ("kept", PLAIN, (0,), True),
            ("silent", (7,) + PLAIN[1:], (0,), 1), ("silent", PLAIN, (0,), 2), ("silent", PLAIN, (0,), False),
            ("silent", PLAIN, (0,), -1), ("silent", PLAIN, (3,), 1),
            ("never", PLAIN, ((2, (0,), 0),)), ("never", PLAIN, ((1, (0,), 0), (0, (0,), 0))),
            ("never", PLAIN, ((1, (0,)),)),
            ("never", PLAIN, ((1, (3,), 0),)), ("never", PLAIN, ((1, (0,), -1),)),
            ("rising", PLAIN, ((2, (0,)),)), ("rising", PLAIN, ((1, (0,)), (0, (0,)))),
            ("rising", PLAIN, ((1, (0,), 0),)),
            ("rising", PLAIN, ((1,),)), ("rising", PLAIN, ((1, (3,)),)), ("rising", PLAIN, ((True, (0,)),)),
            ("rising", PLAIN, ((-1, (0,)),)),
            ("bears", PLAIN, (0, 1), 3, 1, 0), ("bears", PLAIN, (0, 1), 0, 1, 0), ("bears", PLAIN, (), 1, 1, 0),
            ("bears", PLAIN, (0, 1), 1, 0, 0), ("bears", PLAIN, (0, 1), 1, 1, -1), ("bears", PLAIN, (0, 1), True, 1, 0),
            ("bears", PLAIN, (0, 3), 1, 1, 0), ("bears", PLAIN, (0, 1), 1, 1, True),
            ("safe", CALM, (2, 0, 2, 0, 2)), ("safe", CALM, (1, 1, 2, 0, 2)), ("safe", CALM, (1, 0, 4, 0, 2)),
            ("safe", CALM[:3] + ((("wait", 0),),), (0, 0, 1, 0, 1)),
            ("moved", MOVE, 0, 1), ("moved", MOVE, 4, 1), ("moved", MOVE, 1, 0), ("moved", MOVE, 1, 4),
            ("moved", MOVE, True, 1), ("moved", ((), (0,), ()), 1, 1), ("heirs", MOVE[:2]),
            ("heirs", ((0,), (1,), ((0, 0),))),
            ("meet", TWO_OF, ((0,), (0, 1))), ("meet", TWO_OF, ((8,),)), ("meet", ((8,),), TWO_OF),
            ("meet", (), TWO_OF),
            ("meet", TWO_OF, ((1,), (0,))), ("joined", (3, JOINED[1][:1])), ("joined", (0, JOINED[1])),
            ("within", WEB, ONES, ((3,),), 0, 0), ("within", WEB, ((3,),), ONES, 0, 0),
            ("within", WEB, ONES, ONES, -1, 0),
            ("within", WEB, ONES, ONES, 0, -1), ("within", WEB, ONES, ONES, True, 0), ("within", WEB, (), ONES, 0, 0),
            ("within", (3, (("meet", (0,), 4, 0, 100),)), ONES, ONES, 0, 0))
        for claim in bad:
            self.assertIs(is_claim(claim), False, claim)
            self.assertRaises(errors.Unfit, stands, claim)
            self.assertRaises(errors.Unfit, is_paper_against, claim, None)
        for claim in (("rising", PLAIN, ([1, (0,)],)), ("rising", PLAIN, ((1, [0]),)),
                      ("never", PLAIN, ([1, (0,), 0],))):
            self.assertEqual((is_claim(claim), stands(claim)), (False, claim[0] == "rising"))
        for claim in (("kept", PLAIN, (), GREAT), ("silent", (6,) + PLAIN[1:], (5,), 0),
                      ("bears", PLAIN, (2,), 1, 9, GREAT),
                      ("meet", ((),), ((7,),)), ("within", WEB, ((),), ((0, 1, 2),), 0, 0),
                      ("never", PLAIN, ((1, (), 7),) * 9),
                      ("kept", (9, 0, (("wait", 0),) * 40), (8,), 10 ** 30)):
            self.assertIs(is_claim(claim), True, claim)

    def test_no_papers(self):
        for claim in STANDING + FALLEN:
            for thing in (None, 0, True, "abc", (), [], (None,), (0, 1, 2), ((), (), ()), ((0,), (1,), (2,)),
                          (10 ** 30,),
                          ([0], [1]), ((True,), (1,)), ("a", "b"), ((0, 1), (0, 1))):
                self.assertIs(is_paper_against(claim, thing), False, (claim, thing))
        for claim in FALLEN:
            paper = paper_against(claim)
            self.assertIs(is_paper_against(claim, list(paper)), False)
            self.assertIs(is_paper_against(claim, paper + (0,)), False)

    def test_no_numbers_in_pairs(self):
        for claim in (FALLEN[8], FALLEN[10]):
            self.assertIs(is_paper_against(claim, ((0,), (2,))), True)
            for thing in (((False,), (2,)), ((0,), (True,)), ([0], (2,)), ((0,), [2]), ((0,), 2), ((0,), (2,), ()),
                          ((0,), (7,)), ((7,), (2,)), ((), (2,)), ((0,), ())):
                self.assertIs(is_paper_against(claim, thing), False, thing)

    def test_papers_against_bears(self):
        claim, some, took = ("bears", PLAIN, (0, 1, 2), 3, 1, 3), (0, 1, 2), ((0, 1), ())
        both = took, (), ()
        self.assertIs(is_paper_against(claim, (some, ((1, 0), (1, 1)), both)), True)
        self.assertIs(is_paper_against(claim, (some, ((0, 0), (1, 0), (1, 1)), ((),) + both)), True)
        self.assertIs(is_paper_against(claim, (some, ((1, 0), (1, 1), (1, 2)), both + ((),))), True)
        for cut in (((1, 1), (1, 0)), ((1, 0), (1, True)), ((1, 0), (True, 1)), ([1, 0], (1, 1)), [(1, 0), (1, 1)],
                    ((1, 0), (2, 1)), ((1, 0), (1, 3)), ((-1, 0), (1, 1)), ((1, 0), (1,)), ((1, 0), (1, 1, 1)),
                    ((1, 0), None),
                    ((1, 0), (1, "1")), None, 0, "ab"):
            self.assertIs(is_paper_against(claim, (some, cut, both)), False, cut)
        self.assertIs(is_paper_against(claim, (some, ((1, 0), (1, 0), (1, 1)), both + ((),))), False)
        less = claim[:5] + (2,)
        self.assertIs(is_paper_against(less, (some, ((1, 0), (1, 1)), both)), True)
        self.assertIs(is_paper_against(less, (some, ((1, 0), (1, 1), (1, 2)), both + ((),))), False)

    def test_points_that_are_none(self):
        claim = FALLEN[5]
        store, trial = claim[1:]
        for point, others in ((0, (12, -1, False, GREAT)), (1, (True, 13, "1")), (11, (-2, 23, None))):
            some = weak_lots(store, trial, point)[0]
            book = trial_by_acts(store, trial, point)
            lots = [lot for lot in book[2][1][4] if not set(lot) & set(some)]
            world = ((), (lots[0], ()))
            self.assertIs(is_paper_against(claim, (point, some, world)), True)
            for other in others:
                self.assertIs(is_paper_against(claim, (other, some, world)), False, other)

    def test_papers_against_safe(self):
        claim = FALLEN[5]
        point, some, world = paper_against(claim)
        for thing in ((point, some), (True, some, world), (-1, some, world), (12, some, world), (None, some, world),
                      (point, some[:1], world), (point, some[::-1], world), (point, (0, 2), world), (point, some, ()),
                      (point, list(some), world), (point, some, list(world)), ((point,), some, world)):
            self.assertIs(is_paper_against(claim, thing), False, thing)


class TooManyCases(Judged):
    NINE = (3, 0, (("put", 0, 1, (0, 1, 2), TWO_OF),) + tuple(("send", 0, 0, 1) for _ in range(10)))
    WIDE = (8, 0, tuple(("put", 0, k + 1, tuple(range(8)), by_count(range(8), 4)) for k in range(2)))

    def test_of_the_functions_by_which_it_is_found(self):
        for claim in (("never", self.NINE, ((11, (0,), 1),)), ("rising", self.NINE, ((0, (0,)), (11, (1,)))),
                      ("bears", self.WIDE, (0, 1), 1, 1, 0)):
            self.assertIs(is_claim(claim), True)
            for action in (stands, paper_against):
                self.assertRaises(errors.TooMany, action, claim)
            self.assertRaises(errors.TooMany, first_fallen, (STANDING[0], claim))
            self.assertRaises(errors.Unfit, first_fallen, (claim, None))
            self.assertEqual(first_fallen((FALLEN[0], claim))[0], 0)
            self.assertIs(is_paper_against(claim, None), False)
            self.assertRaises(errors.Unfit, reason_for, claim)
            self.assertRaises(errors.Unfit, is_reason_for, claim, None)

    def test_never_where_nothing_is_looked_for(self):
        book, log = self.NINE, ((11, (0,), 1),)
        quiet = (((0, 1), ()),) + ((),) * 10
        self.assertIs(is_paper_against(("never", book, log), quiet), True)
        self.assertIs(is_paper_against(("never", book, ((11, (2,), 1),)), quiet), False)
        self.assertIs(is_paper_against(("rising", book, ((1, (0,)), (11, (2,)))), quiet), True)
        wide = tuple(((4, 5, 6, 7), ()) for _ in range(2))
        self.assertIs(is_paper_against(("bears", self.WIDE, (0, 1), 1, 1, 0), ((1,), (), wide)), True)
        self.assertIs(stands(("never", book, ((11, (0,), 0),))), False)
        self.assertIs(stands(("bears", self.WIDE, (0, 1, 2, 3, 4), 5, 2, 1)), False)
        self.assertIs(stands(("kept", self.NINE, (0, 1), 1)), True)
        self.assertIs(stands(("silent", self.NINE, (0, 1), 0)), True)

    def test_at_the_bounds(self):
        eight, four = tuple(range(8)), by_count(range(8), 4)
        deeds = tuple(("put", k, k + 1, eight, four) if k == 0 else ("copy", k, k % 8, (k * 3 + 1) % 8)
                      if k % 8 != (k * 3 + 1) % 8 else ("wait", k) for k in range(24))
        book = (8, 0, deeds)
        for losses in range(6):
            claim = ("bears", book, eight, 6, 1, losses)
            paper = paper_against(claim)
            self.assertEqual(paper is None, stands(claim))
            self.assertTrue(paper is None or is_paper_against(claim, paper))
        sends = tuple(("put", k, k + 1, (0, 1, 2), TWO_OF) if k % 3 == 0 else ("send", k, k % 3, (k + 1) % 3) if k < 13
                      else ("copy", k, k % 3, (k + 1) % 3) for k in range(24))
        asks = tuple((3 * k, (k % 3,)) for k in range(8))
        claim = ("rising", (3, 4, sends), asks)
        paper = paper_against(claim)
        self.assertEqual(paper is None, stands(claim))
        self.assertTrue(paper is None or is_paper_against(claim, paper))


if __name__ == "__main__":
    unittest.main()
