"""Hints, against roads, further DEEDS and all sets of gifts and falls."""

import random
import unittest
from itertools import combinations, product

from hintring import errors
from hintring.books import last, renamed, versions
from hintring.families import by_count
from hintring.hints import (counts_from, fewest_falls, first_there, given_back, is_boxes, keeps_to, least_gifts,
                            noted_homes, throw_paper)
from hintring.misses import can_miss
from tests import oracles
from tests.cases import Case
from tests.makers import random_family, subsets

BOXES, PUT = ((4, 3, 2),), ("put", 0, 1, (0, 1, 4), ((0, 1), (0, 4), (1, 4)))
KEPT, GIVEN = (5, 2, (PUT,)), (5, 2, (PUT, ("copy", 3, 4, 2)))
GREAT = 10 ** 9


def random_boxes(rng, many, count):
    """At most so many boxes, the last PLACES, for and at the others."""
    others, rows, met = range(many - count), [], set()
    for box in range(many - count, many):
        keeper, home = rng.sample(others, 2)
        if (keeper, home) not in met:
            rows.append((box, keeper, home))
            met.add((keeper, home))
    return tuple(sorted(rows))


def may_hand(boxes, one, other):
    """Whether a copy or a send from one to other keeps to these boxes."""
    homes = {box: home for box, _, home in boxes}
    return one != other and other not in homes and homes.get(one, other) == other


def kept_book(rng, many, boxes, count, losses=True):
    """A BOOK of so many DEEDS that keeps to these boxes."""
    pairs = [(one, other) for one in range(many) for other in range(many) if may_hand(boxes, one, other)]
    pairs += [(box, home) for box, _, home in boxes] * 3
    rows, version = [], 0
    for tick in range(count):
        kind = rng.choice(("put", "put", "strike", "copy", "copy", "copy", "send", "lose" if losses else "wait"))
        if kind in ("put", "strike"):
            version += rng.choice((1, 2))
            homes = tuple(sorted(rng.sample(range(many), rng.randrange(1, min(many, 4) + 1))))
            rows.append((kind, tick, version, homes, random_family(rng, homes)))
        elif kind in ("copy", "send"):
            rows.append((kind, tick) + rng.choice(pairs))
        else:
            rows.append((kind, tick, rng.randrange(many)) if kind == "lose" else (kind, tick))
    return many, 2, tuple(rows)


def random_cases(seed, count):
    rng, found = random.Random(seed), []
    for _ in range(count):
        boxes = random_boxes(rng, 5, rng.choice((1, 2, 2)))
        book, names = kept_book(rng, 5, boxes, rng.randrange(1, 7)), rng.sample(range(5), 5)
        found.append((renamed(book, names), tuple(sorted(tuple(names[place] for place in row) for row in boxes))))
    return found


class Boxes(Case):
    def test_is_boxes(self):
        two = ((4, 3, 2), (5, 2, 3), (6, 3, 1))
        for thing in ((), BOXES, two, ((4, 3, 2), (5, 3, 1), (6, 2, 1)), ((4, 3, 2), (5, 1, 2))):
            self.assertIs(is_boxes(thing, 7), True)
        self.assertIs(is_boxes(BOXES, 4), False)
        self.assertIs(is_boxes(((10 ** 30, 3, 2),), 10 ** 31), True)
        for thing in (None, 0, True, "", "abc", [], [(4, 3, 2)], ([4, 3, 2],), (4, 3, 2), ((4, 3),), ((4, 3, 2, 1),),
                      ((True, 3, 2),), ((4, False, 2),), ((4, 3, True),), ((4, 3, None),), (("4", 3, 2),),
                      ((4, 4, 2),), ((4, 3, 4),), ((4, 3, 3),), ((7, 3, 2),), ((4, -1, 2),), ((4, 3, 10 ** 30),),
                      ((5, 3, 2), (4, 3, 1)), ((4, 3, 2), (4, 3, 2)), ((4, 1, 2), (4, 3, 2)), ((4, 3, 2), (5, 3, 2)),
                      ((4, 3, 2), (5, 4, 2)), ((4, 3, 2), (5, 2, 4)), ((4, 5, 2), (5, 3, 2)), ((4, 3, 2), None)):
            self.assertIs(is_boxes(thing, 7), False, thing)

    def test_keeps_to(self):
        boxes = ((4, 3, 2), (5, 3, 1))
        for one, other in product(range(6), repeat=2):
            for kind in ("copy", "send"):
                if one != other:
                    book = (6, 2, (PUT, ("lose", 0, 4), (kind, 1, one, other), ("lose", 1, 1)))
                    self.assertIs(keeps_to(book, boxes), may_hand(boxes, one, other))
                    self.assertIs(keeps_to(book, ()), True)
        self.assertIs(keeps_to((5, 2, (PUT, ("copy", 1, 4, 2), ("copy", 1, 0, 4))), BOXES), False)
        self.assertIs(keeps_to((2, 0, ()), BOXES), True)

    def test_first_there_and_noted_homes(self):
        rng, able, unable = random.Random(620), 0, 0
        for _ in range(1500):
            line = tuple(rng.sample(range(5), rng.randrange(0, 6)))
            away = tuple(sorted(rng.sample(range(6), rng.randrange(0, 4))))
            copies = rng.randrange(1, 7)
            boxes = random_boxes(rng, 8, 3)
            wanted = [place for place in line if place not in away][:copies]
            self.assertEqual(first_there(line, copies, away), tuple(wanted))
            told = self.noted(boxes, line[:copies], wanted, away)
            if told is None:
                self.assertRaises(errors.CanNot, noted_homes, boxes, line, copies, away)
                unable += 1
            else:
                self.assertEqual(noted_homes(boxes, line, copies, away), told)
                able += any(place > 4 for place in told)
        self.assertTrue(able > 5 and unable > 50, (able, unable))

    def noted(self, boxes, ours, there, away):
        homes = {place for place in ours if place not in away}
        fresh, gone = [place for place in there if place not in ours], [place for place in ours if place in away]
        for at in range(min(len(fresh), len(gone))):
            able = [box for box, keeper, home in boxes if (keeper, home) == (fresh[at], gone[at])]
            if not able:
                return None
            homes.add(able[0])
        return tuple(sorted(homes))

    def test_noted_homes_edges(self):
        line = (0, 1, 2, 3)
        self.assertEqual(noted_homes((), line, 3, ()), (0, 1, 2))
        self.assertEqual(noted_homes((), line, 4, (2,)), (0, 1, 3))
        self.assertEqual(noted_homes((), (), 2, (0,)), ())
        self.assertEqual(noted_homes((), (0, 1), 5, (0, 1)), ())
        self.assertRaises(errors.CanNot, noted_homes, (), line, 3, (2,))
        self.assertRaises(errors.CanNot, noted_homes, ((4, 2, 3),), line, 3, (2,))
        boxes = ((5, 2, 0), (6, 3, 1), (7, 2, 1))
        self.assertEqual(noted_homes(boxes, line, 2, (0, 1)), (5, 6))
        self.assertEqual(noted_homes(boxes, line, 2, (1,)), (0, 7))
        self.assertEqual(noted_homes(boxes, line[:3], 2, (0, 1)), (5,))


class Given(Case):
    CASES = random_cases(621, 120)

    def test_given_back_and_counts_from(self):
        met = set()
        for book, boxes in self.CASES:
            for number, deed in enumerate(book[2]):
                if not oracles.is_written(deed):
                    self.assertRaises(errors.CanNot, given_back, book, boxes, number)
                    self.assertRaises(errors.CanNot, counts_from, book, boxes, number, boxes[0][0])
                    continue
                back = []
                for box, _, home in boxes:
                    times = [k for k in range(number + 1, last(book) + 1)
                             if box in oracles.past_by_roads(book, (home,), k)[number + 1]]
                    self.assertEqual(counts_from(book, boxes, number, box), min(times, default=None))
                    met.add(bool(times))
                    if box in deed[3] and last(book) in times:
                        back.append(box)
                self.assertEqual(given_back(book, boxes, number), tuple(back))
        self.assertEqual(met, {True, False})

    def test_a_box_that_is_lost_ahead_of_its_copy(self):
        gone = (5, 2, (PUT, ("lose", 1, 4), ("copy", 3, 4, 2)))
        self.assertEqual((given_back(gone, BOXES, 0), counts_from(gone, BOXES, 0, 4)), ((), None))
        self.assertEqual(throw_paper(gone, BOXES, 4), None)
        late = (5, 2, (PUT, ("copy", 3, 4, 2), ("lose", 4, 4), ("lose", 5, 2)))
        self.assertEqual((given_back(late, BOXES, 0), counts_from(late, BOXES, 0, 4)), ((), 2))

    def test_a_write_without_homes(self):
        book = (5, 2, (("put", 0, 1, (), ((),)), ("copy", 1, 4, 2)))
        self.assertEqual((given_back(book, BOXES, 0), counts_from(book, BOXES, 0, 4)), ((), 2))
        self.assertIsNone(throw_paper(book, BOXES, 4))
        self.assertEqual(fewest_falls(book, BOXES, 1), ())
        self.assertIsNone(least_gifts(book, BOXES, (0, 2), 1, 1, 3))

    def test_a_home_that_is_there_again(self):
        again = (5, 2, (PUT, ("put", 1, 2, (0, 1, 2), by_count((0, 1, 2), 2))))
        self.assertIsNotNone(throw_paper(KEPT, BOXES, 4))
        self.assertIsNone(throw_paper(again, BOXES, 4))
        ahead = (5, 2, (("put", 0, 1, (0, 1, 2), by_count((0, 1, 2), 2)), PUT[:1] + (1, 2) + PUT[3:]))
        self.assertEqual(throw_paper(ahead, BOXES, 4), ((0, 2), 2))

    def test_refusals(self):
        for number in (-1, 2):
            self.refused(errors.NoDeed, number, given_back, GIVEN, BOXES, number)
            self.refused(errors.NoDeed, number, counts_from, GIVEN, BOXES, number, 3)
            self.refused(errors.NoPlace, 5, counts_from, GIVEN, BOXES, number, 5)
        self.assertRaises(errors.CanNot, given_back, GIVEN, BOXES, 1)
        self.assertRaises(errors.CanNot, counts_from, GIVEN, BOXES, 1, 4)
        self.assertRaises(errors.CanNot, counts_from, GIVEN, BOXES, 0, 3)
        self.assertRaises(errors.CanNot, counts_from, GIVEN, (), 0, 4)
        self.refused(errors.NoPlace, -1, throw_paper, GIVEN, BOXES, -1)
        self.refused(errors.NoPlace, 5, throw_paper, GIVEN, BOXES, 5)
        self.assertRaises(errors.CanNot, throw_paper, GIVEN, BOXES, 2)
        self.refused(errors.NoPlace, 5, least_gifts, GIVEN, BOXES, (0, 5), 1, 0, 1)
        self.refused(errors.NoVersion, 0, least_gifts, GIVEN, BOXES, (0,), 1, 0, 1)
        self.refused(errors.NoVersion, -1, fewest_falls, GIVEN, BOXES, -1)


class Thrown(Case):
    CASES = random_cases(622, 50)

    def test_the_least_pair(self):
        seen = set()
        for book, boxes in self.CASES:
            for box, _, home in boxes:
                pairs = [(lot, version) for lot in subsets(range(book[0])) if home in lot and box not in lot
                         for version in versions(book)
                         if can_miss(book, lot, version) and not can_miss(book, tuple(sorted(lot + (box,))), version)]
                self.assertEqual(throw_paper(book, boxes, box), min(pairs, default=None))
                seen.add(bool(pairs))
        self.assertEqual(seen, {True, False})

    def test_by_further_deeds(self):
        for book, boxes in self.CASES:
            for box, _, _ in boxes:
                thrown = all(self.alike(book, box, more) for more in self.further(book, boxes))
                self.assertEqual(throw_paper(book, boxes, box) is None, thrown)

    def further(self, book, boxes):
        """All rows of up to two further copies, and some of other DEEDS, that keep to boxes."""
        tick = book[2][-1][1]
        copies = [("copy", tick, one, other) for one, other in product(range(book[0]), repeat=2)
                  if may_hand(boxes, one, other)]
        put = ("put", tick, GREAT, (0, 1, 2), ((0, 1), (2,)))
        rows = [(one,) for one in copies] + [(one, two) for one in copies[::3] for two in copies[::2]]
        return [()] + rows + [(one, put, two) for one in copies[::4] for two in copies[::5]]

    def alike(self, book, box, more):
        many, life, deeds = book
        plain, lost = (many, life, deeds + more), (many, life, deeds + (("lose", deeds[-1][1], box),) + more)
        lots = [lot for lot in subsets(range(many)) if box not in lot and 2 * len(lot) <= many + 1]
        return all(can_miss(plain, lot, version) or not can_miss(lost, lot, version)
                   for lot in lots for version in versions(plain))


class Gifts(Case):
    CASES = random_cases(623, 120)

    def test_least_gifts(self):
        rng, seen = random.Random(624), set()
        for book, boxes in self.CASES:
            others = [place for place in range(book[0]) if place not in [box for box, _, _ in boxes]]
            some = tuple(sorted(rng.sample(others, rng.randrange(1, len(others) + 1))))
            reads, version = rng.randrange(1, len(some) + 1), rng.choice((1,) + versions(book) + (GREAT,))
            pairs = [(box, place) for box, _, home in boxes for place in ((home,) if home in some else some)]
            good = [gifts for size in range(4) for gifts in combinations(sorted(pairs), size)
                    if not self.is_missed(book, gifts, some, reads, version)]
            least = min(good, key=lambda gifts: (len(gifts), gifts), default=None)
            for most in range(4):
                wanted = least if good and len(least) <= most else None
                self.assertEqual(least_gifts(book, boxes, some, reads, version, most), wanted)
                seen.add(wanted and len(wanted))
        self.assertTrue({None, (), 0, 1, 2} & seen >= {None, 1})

    def is_missed(self, book, gifts, some, reads, version):
        copies = tuple(("copy", book[2][-1][1], box, place) for box, place in gifts)
        more = (book[0], book[1], book[2] + copies)
        return any(can_miss(more, lot, version) for lot in combinations(some, reads))

    def test_fewest_falls(self):
        seen = set()
        for book, boxes in self.CASES:
            for version in (1, GREAT) + versions(book):
                kinds = [box for box, _, _ in boxes]
                others = [place for place in range(book[0]) if place not in kinds]
                good = [some for some in subsets(others) if self.is_missed_by_all(book, boxes, some, version)]
                wanted = min(good, key=lambda some: (len(some), some))
                self.assertEqual(fewest_falls(book, boxes, version), wanted)
                seen.add(len(wanted))
        self.assertTrue({0, 1, 2} <= seen)

    def is_missed_by_all(self, book, boxes, some, version):
        tick = book[2][-1][1]
        lost = list(some) + [box for box, keeper, _ in boxes if keeper in some]
        fallen = (book[0], book[1], book[2] + tuple(("lose", tick, place) for place in lost))
        return can_miss(fallen, tuple(range(book[0])), version)

    def test_edges(self):
        self.assertEqual(least_gifts(KEPT, (), (0, 1), 2, 1, 3), ())
        self.assertIsNone(least_gifts(KEPT, (), (0, 1), 1, 1, 3))
        self.assertEqual(least_gifts(KEPT, BOXES, (0, 1), 1, GREAT, 3), None)
        self.assertIsNone(least_gifts(KEPT, BOXES, (0, 1, 3), 2, 1, 0))
        self.assertEqual(least_gifts(KEPT, BOXES, (0, 1, 2), 2, 1, 1), ((4, 2),))
        self.assertEqual(fewest_falls(KEPT, (), 1), (0, 1))
        self.assertEqual(fewest_falls((4, 0, (("put", 0, 1, (0,), ((0,),)),)), ((0, 3, 2),), 1), (3,))
        self.assertEqual(fewest_falls((2, 0, ()), (), 1), ())
        self.assertEqual(fewest_falls((2, 0, (("put", 0, 1, (0, 1), ((0, 1),)),)), (), 1), (0, 1))

    def test_at_the_bounds(self):
        boxes = ((5, 0, 4), (6, 1, 4), (7, 2, 4))
        homes = tuple(range(8))
        deeds = tuple(("put", k, k + 1, homes, by_count(homes, 4)) for k in range(23)) + (("copy", 30, 5, 4),)
        book = (8, 5, deeds)
        self.assertIs(is_boxes(boxes, 8) and keeps_to(book, boxes), True)
        self.assertEqual(least_gifts(book, boxes, (0, 1, 2, 3), 4, 1, 3), ((5, 0),))
        self.assertIsNone(least_gifts(book, boxes, (0, 1, 2, 3), 1, 1, 3))
        # The gifts are for 4, so those who are asked without it have none of them.
        self.assertIsNone(least_gifts(book, boxes, (0, 1, 2, 3, 4), 4, 1, 3))
        self.assertEqual(throw_paper(book, boxes, 6), ((0, 1, 4), 1))
        self.assertEqual(fewest_falls(book, boxes, 1), (1, 2))


class OneWrite(Case):
    def test_hints_of_one_write(self):
        """copies PLACES, some of them boxes for unlike homes; b homes without a copy."""
        met = 0
        for copies in (1, 2, 3, 4):
            for boxed in range(copies + 1):
                homes = tuple(range(copies))
                boxes = tuple((copies + 1 + k, copies, k) for k in range(boxed))
                written = tuple(range(boxed, copies)) + tuple(box for box, _, _ in boxes)
                for given in subsets(range(boxed)):
                    for need in range(copies + 1):
                        self.check(copies, homes, boxes, written, given, need)
                        met += 1
        self.assertGreater(met, 100)

    def check(self, copies, homes, boxes, written, given, need):
        many, left = copies + 1 + len(boxes), len(boxes) - len(given)
        deeds = tuple(("copy", 1, copies + 1 + k, k) for k in given)
        whole = (many, 0, (("put", 0, 1, tuple(sorted(written)), by_count(sorted(written), need)),) + deeds)
        self.assertIs(keeps_to(whole, boxes), True)
        there = [place for place in written if place < copies]
        for reads in range(copies + 1):
            held = not any(can_miss(whole, lot, 1) for lot in combinations(homes, reads))
            self.assertEqual(held, need + reads > copies + left)
            if need <= len(there):
                own = (many, 0, (("put", 0, 1, tuple(sorted(written)), by_count(there, need)),) + deeds)
                held = not any(can_miss(own, lot, 1) for lot in combinations(homes, reads))
                self.assertEqual(held, need + reads > copies)


if __name__ == "__main__":
    unittest.main()
