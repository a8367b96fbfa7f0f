"""Pasts and roads, against all roads of many small BOOKS."""

import random
import unittest

from hintring import errors
from hintring.books import last
from hintring.pasts import (has_room, idle_deeds, is_road, past, pasts_of_each, road, rooms, sure_after,
                            without_idle)
from tests import oracles
from tests.cases import Case
from tests.makers import all_worlds, random_book, small_books, subsets

EMPTY = (2, 0, ())
TWO_OF = ((0, 1), (0, 2), (1, 2))
TURNED = (3, 0, (("copy", 0, 0, 1), ("lose", 0, 0), ("copy", 0, 2, 0)))
PLAIN = (4, 2, (("put", 0, 1, (0, 1, 2), TWO_OF), ("copy", 4, 0, 3), ("strike", 4, 2, (3,), ((), ))))
HANDED = ("put", "copy", "copy", "copy", "send", "lose", "lose", "wait")


def random_books(seed, count, deeds=7):
    rng = random.Random(seed)
    return [random_book(rng, rng.randrange(2, 5), rng.randrange(0, deeds), kinds=HANDED) for _ in range(count)]


class Pasts(Case):
    def test_a_past_has_those_from_whom_a_road_leads(self):
        for book in random_books(60, 60, 6):
            for moment in range(last(book) + 1):
                for some in subsets(range(book[0])):
                    self.assertEqual(past(book, some, moment), oracles.past_by_roads(book, some, moment))
                each = tuple(past(book, (place,), moment) for place in range(book[0]))
                self.assertEqual(pasts_of_each(book, moment), each)

    def test_sure_after(self):
        for book in random_books(61, 60):
            end = last(book)
            for start in range(end + 1):
                for some in subsets(range(book[0])):
                    lots = [set(some)]
                    for deed in book[2][start:]:
                        now = set(lots[-1])
                        if deed[0] == "copy" and deed[2] in now:
                            now.add(deed[3])
                        elif deed[0] == "lose":
                            now.discard(deed[2])
                        lots.append(now)
                    self.assertEqual(sure_after(book, some, start), tuple(tuple(sorted(lot)) for lot in lots))

    def test_a_place_is_in_the_past_exactly_if_it_surely_hands_on(self):
        for book in random_books(62, 60):
            for start in range(last(book) + 1):
                for place in range(book[0]):
                    lots = sure_after(book, (place,), start)
                    for moment in range(start, last(book) + 1):
                        for some in subsets(range(book[0])):
                            met = bool(set(some) & set(lots[moment - start]))
                            self.assertEqual(place in past(book, some, moment)[start], met)

    def test_pasts_are_joined_of_single_places_and_go_on(self):
        for book in random_books(63, 60):
            end = last(book)
            each = pasts_of_each(book, end)
            for some in subsets(range(book[0])):
                lots = past(book, some, end)
                for start in range(end + 1):
                    joint = {place for one in some for place in each[one][start]}
                    self.assertEqual(lots[start], tuple(sorted(joint)))
                    self.assertEqual(past(book, lots[start], start), lots[:start + 1])

    def test_nobody_of_a_past_holds_what_is_taken_outside_of_it(self):
        for book in small_books(64, 60, 60, deeds=(2, 3, 4), kinds=HANDED):
            for some in subsets(range(book[0])):
                lots = past(book, some, last(book))
                for world in all_worlds(book):
                    if self.is_outside(book, lots, world):
                        for lot, cells in zip(lots, oracles.play(book, world)[0]):
                            self.assertEqual([cells[place] for place in lot], [0] * len(lot))

    def is_outside(self, book, lots, world):
        for number, deed in enumerate(book[2]):
            if oracles.is_written(deed):
                if world[number][1] or set(world[number][0]) & set(lots[number + 1]):
                    return False
            elif world[number]:
                return False
        return True

    def test_edges_and_refusals(self):
        self.assertEqual(past(EMPTY, (0, 1), 0), ((0, 1),))
        self.assertEqual(past(TURNED, (), 3), ((),) * 4)
        self.assertEqual(sure_after(TURNED, (), 0), ((),) * 4)
        self.assertEqual(sure_after(TURNED, (1, 2), 3), ((1, 2),))
        self.assertEqual(pasts_of_each(TURNED, 0), (((0,),), ((1,),), ((2,),)))
        self.assertEqual(past((2, 9, (("send", 0, 0, 1),)), (1,), 1), ((1,), (1,)))
        for action in (past, sure_after):
            self.refused(errors.NoPlace, 3, action, TURNED, (1, 3, 4), 9)
            self.refused(errors.NoPlace, -1, action, TURNED, (-1, 3), 9)
            self.refused(errors.NoMoment, 4, action, TURNED, (1,), 4)
            self.refused(errors.NoMoment, -1, action, TURNED, (), -1)
        for moment in (-1, 4):
            self.refused(errors.NoMoment, moment, pasts_of_each, TURNED, moment)


class Rooms(Case):
    def test_has_room_and_rooms(self):
        rng = random.Random(65)
        for book in random_books(66, 150) + [PLAIN]:
            lots = tuple(rng.choice(subsets(range(book[0]))) for _ in range(rng.randrange(0, last(book) + 3)))
            found = []
            for number, deed in enumerate(book[2]):
                if oracles.is_written(deed) and number + 1 < len(lots):
                    wide = any(not set(lot) & set(lots[number + 1]) for lot in deed[4])
                    self.assertIs(has_room(book, lots, number), wide)
                    found += [number] if wide else []
                else:
                    self.assertRaises(errors.Unfit, has_room, book, lots, number)
            self.assertEqual(rooms(book, lots), tuple(found))

    def test_edges_and_refusals(self):
        self.assertEqual((rooms(PLAIN, ()), rooms(EMPTY, ((), ()))), ((), ()))
        self.assertEqual(rooms(PLAIN, ((), (0, 1))), ())
        self.assertEqual(rooms(PLAIN, ((0, 1, 2), (3,))), (0,))
        self.assertEqual(rooms(PLAIN, ((), (1, 2), (), (3,))), (2,))
        self.assertIs(has_room(PLAIN, ((), (0,)), 0), True)
        self.assertRaises(errors.Unfit, has_room, PLAIN, ((),), 0)
        self.assertRaises(errors.Unfit, has_room, PLAIN, ((),) * 9, 1)
        for number in (-1, 3):
            self.refused(errors.NoDeed, number, has_room, PLAIN, (), number)


class Roads(Case):
    def test_road_is_the_one_that_stays(self):
        for book in random_books(67, 50, 6):
            for moment in range(last(book) + 1):
                for some in subsets(range(book[0])):
                    for start in range(last(book) + 1):
                        for place in range(book[0]):
                            self.check(book, some, moment, place, start)

    def check(self, book, some, moment, place, start):
        told = road(book, some, moment, place, start)
        if start > moment or place not in oracles.past_by_roads(book, some, moment)[start]:
            self.assertIsNone(told)
            return
        lots = oracles.past_by_roads(book, some, moment)
        self.assertIn(told, oracles.all_roads(book, start, place, moment))
        self.assertIn(told[-1], some)
        for k in range(start, moment):
            if told[k - start] in lots[k + 1]:
                self.assertEqual(told[k - start], told[k - start + 1])

    def test_is_road_against_all_tuples_of_places(self):
        for book in random_books(68, 25, 5):
            for start in range(last(book) + 1):
                for moment in range(last(book) + 1):
                    known = {one for place in range(book[0]) for one in oracles.all_roads(book, start, place, moment)}
                    for thing in oracles.tuples_of(book[0], max(0, moment - start + 1)):
                        for some in ((), (0,), (0, 1)):
                            wanted = start <= moment and thing in known and thing[-1] in some
                            place = thing[0] if thing else 0
                            self.assertIs(is_road(book, some, moment, place, start, thing), wanted)
                            self.assertIs(is_road(book, some, moment, (place + 1) % book[0], start, thing), False)

    def test_things_that_are_nearly_a_road(self):
        self.assertIs(is_road(TURNED, (1,), 3, 0, 0, (0, 1, 1, 1)), True)
        self.assertIs(is_road(TURNED, (0,), 1, 0, 1, (0,)), True)
        for thing in (None, 0, True, "", (), [0, 1, 1, 1], (0, 1, 1), (0, 1, 1, 1, 1), (0, 0, 1, 1), (0, 1, 1, 2),
                      (0, 1, True, 1), (False, 1, 1, 1), (0, 1, 1, "1"), (0, 1, 1, None), ((0,), 1, 1, 1),
                      (0, (1, 1, 1)), "0111", (-1, 1, 1, 1), (0, 3, 3, 1)):
            self.assertIs(is_road(TURNED, (1,), 3, 0, 0, thing), False, thing)
        self.assertIs(is_road(TURNED, (0, 1, 2), 1, 0, 2, ()), False)
        self.assertIs(is_road(TURNED, (0, 1, 2), 1, 0, 3, (0,)), False)
        self.assertIs(is_road(TURNED, (0,), 0, 0, 0, (False,)), False)

    def test_refusals(self):
        for action, more in ((road, ()), (is_road, (None,))):
            self.refused(errors.NoPlace, 3, action, TURNED, (0, 3), 9, 4, 9, *more)
            self.refused(errors.NoPlace, 4, action, TURNED, (0, 2), 9, 4, 9, *more)
            self.refused(errors.NoPlace, -2, action, TURNED, (), 9, -2, 9, *more)
            self.refused(errors.NoMoment, 5, action, TURNED, (0,), 5, 0, 4, *more)
            self.refused(errors.NoMoment, 4, action, TURNED, (0,), 3, 0, 4, *more)
            self.refused(errors.NoMoment, -1, action, TURNED, (0,), -1, 0, 0, *more)

    def test_each_place_of_a_road_holds_what_the_first_one_holds_or_later(self):
        for book in small_books(69, 60, 60, deeds=(2, 3, 4), kinds=HANDED):
            roads = [one for place in range(book[0]) for one in oracles.all_roads(book, 0, place, last(book))]
            for world in all_worlds(book):
                rows = oracles.play(book, world)[0]
                for one in roads:
                    for start in range(last(book)):
                        self.assertGreaterEqual(rows[-1][one[-1]], rows[start][one[start]])


class Idle(unittest.TestCase):
    def test_idle_deeds(self):
        for book in random_books(70, 150):
            end = last(book)
            rows = [oracles.past_by_roads(book, (place,), end) for place in range(book[0])]
            idle = [number for number, deed in enumerate(book[2]) if deed[0] in ("copy", "lose")
                    and all(lots[number] == lots[number + 1] for lots in rows)]
            self.assertEqual(idle_deeds(book), tuple(idle))
            left = [number for number in range(end) if number not in idle]
            short = without_idle(book)
            self.assertEqual(short, book[:2] + (tuple(book[2][number] for number in left),))
            for some in subsets(range(book[0])):
                lots = past(book, some, end)
                self.assertEqual(past(short, some, last(short)), tuple(lots[number] for number in left) + (some,))

    def test_edges(self):
        two = lambda deed: (2, 0, (deed, deed))
        self.assertEqual(idle_deeds(two(("copy", 0, 0, 1))), (0,))
        self.assertEqual(idle_deeds(two(("lose", 0, 0))), (0,))
        self.assertEqual(without_idle(two(("lose", 0, 0))), (2, 0, (("lose", 0, 0),)))
        self.assertEqual(idle_deeds((2, 0, (("send", 0, 0, 1), ("wait", 0), ("put", 0, 1, (), ((),))))), ())
        self.assertEqual(idle_deeds((2, 0, (("copy", 0, 0, 1), ("lose", 0, 1)))), (0,))
        self.assertEqual((idle_deeds(EMPTY), without_idle(EMPTY)), ((), EMPTY))


if __name__ == "__main__":
    unittest.main()
