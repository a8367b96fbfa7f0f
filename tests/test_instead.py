"""What is told instead, against all WORLDS and all WAYS of many small BOOKS."""

import random
import unittest
from itertools import product

from hintring import errors
from hintring.books import last, upto, versions
from hintring.families import by_count
from hintring.instead import (begins, can_bear, can_tell, guard, is_way, shows, states, tell_way, tell_world,
                              told_by, way_world)
from hintring.misses import can_miss, held_version
from hintring.worlds import full_world, is_world, may_be, may_carry
from tests import oracles
from tests.cases import Case
from tests.makers import all_worlds, random_book, small_books, subsets

EMPTY = (2, 0, ())
FIRST, SEND, SECOND = ("put", 0, 1, (2,), ((2,),)), ("send", 1, 2, 0), ("put", 2, 2, (1, 2), ((1, 2),))
BOOK = (3, 9, (FIRST, SEND, SECOND))
WAY = ((1, 2, 0), (3, 0, 1))
LOST = (3, 4, (("put", 0, 3, (0, 1), ((0,),)), ("lose", 1, 0), ("copy", 1, 0, 1), ("send", 2, 1, 2),
               ("lose", 3, 2), ("wait", 4), ("strike", 9, 5, (0,), ((0,),))))
GREAT = 10 ** 9


def told(book, some):
    return tuple(sorted({oracles.read(cells, some) for cells in oracles.last_cells(book)}))


class AllWorlds(Case):
    BOOKS = small_books(90, 100, 3000) + small_books(95, 120, 3000, least_worlds=60)

    def test_told_by_and_can_tell(self):
        for book in self.BOOKS:
            for some in subsets(range(book[0])):
                wanted = told(book, some)
                self.assertEqual(told_by(book, some), wanted)
                for version in (-1, 0, GREAT) + versions(book) + tuple(k + 1 for k in versions(book)):
                    self.assertIs(can_tell(book, some, version), version in wanted)

    def test_can_bear(self):
        for book in self.BOOKS:
            plays = [oracles.play(book, world)[1] for world in all_worlds(book)]
            for number, deed in enumerate(book[2]):
                if deed[0] == "send":
                    self.assertEqual(can_bear(book, number), tuple(sorted({loads[number] for loads in plays})))
                else:
                    self.assertRaises(errors.CanNot, can_bear, book, number)

    def test_tell_way_and_tell_world(self):
        for book in self.BOOKS:
            for some in subsets(range(book[0])):
                wanted = told(book, some)
                for version in (-1, 0, GREAT) + versions(book):
                    way, world = tell_way(book, some, version), tell_world(book, some, version)
                    if version in wanted:
                        self.assertTrue(is_world(book, world))
                        self.assertEqual(oracles.read(oracles.play(book, world)[0][-1], some), version)
                    else:
                        self.assertIsNone(world)
                    if version in wanted and version:
                        self.assertIn(way, oracles.all_ways(book, version))
                        self.assertTrue(oracles.does_show(book, some, way))
                    else:
                        self.assertIsNone(way)

    def test_all_ways(self):
        for book in self.BOOKS[:150]:
            for version in versions(book):
                ways = oracles.all_ways(book, version)
                for some in subsets(range(book[0])):
                    able = [self.check_way(book, some, version, way) for way in ways]
                    self.assertEqual(any(able), version in told(book, some))

    def check_way(self, book, some, version, way):
        self.assertIs(is_way(book, version, way), True)
        self.assertEqual(guard(book, some, way), oracles.guard_of(book, some, way))
        able = oracles.does_show(book, some, way)
        self.assertIs(shows(book, some, way), able)
        if not able:
            self.assertRaises(errors.CanNot, way_world, book, some, way)
            return able
        world = way_world(book, some, way)
        self.assertEqual(world, self.named_world(book, some, way))
        self.assertTrue(is_world(book, world))
        self.assertEqual(oracles.read(oracles.play(book, world)[0][-1], some), version)
        return able

    def named_world(self, book, some, way):
        lots, world = oracles.guard_of(book, some, way), []
        for number, deed in enumerate(book[2]):
            brought = [(place, moment) for moment, place, source in way if source == number]
            if oracles.is_written(deed):
                free = [lot for lot in deed[4] if number <= way[0][2] or not set(lot) & set(lots[number + 1])]
                world.append((free[0], tuple(brought)))
            elif deed[0] == "send":
                world.append(tuple(moment for _, moment in brought))
            else:
                world.append(())
        return tuple(world)

    def test_is_way_against_all_ways(self):
        for book in small_books(91, 40, 60, many=(2,), deeds=(1, 2, 3)):
            numbers = range(last(book) + 1)
            stations = list(product(numbers, range(2), numbers))
            for version in versions(book):
                ways = set(oracles.all_ways(book, version))
                for length in (1, 2):
                    for thing in product(stations, repeat=length):
                        self.assertIs(is_way(book, version, thing), thing in ways, (book, version, thing))

    def test_states_and_begins(self):
        for book in self.BOOKS:
            for some in subsets(range(book[0])):
                for version in versions(book):
                    rows = states(book, some, version)
                    self.assertEqual(rows, oracles.table(book, some, version))
                    begun = [begins(book, version, state) for state in rows]
                    self.assertEqual(begun, [oracles.does_begin(book, version, state) for state in rows])
                    self.assertEqual(any(begun), version in told(book, some))


class LongerBooks(unittest.TestCase):
    def test_against_all_states(self):
        rng = random.Random(92)
        for _ in range(60):
            book = random_book(rng, rng.randrange(2, 5), 8)
            rows = oracles.all_states(book)
            for some in subsets(range(book[0])):
                wanted = tuple(sorted({oracles.read(cells, some) for cells, _ in rows[-1]}))
                self.assertEqual(told_by(book, some), wanted)
            for number, deed in enumerate(book[2]):
                if deed[0] == "send":
                    loads = {cells[deed[2]] for cells, _ in rows[number]}
                    self.assertEqual(can_bear(book, number), tuple(sorted(loads)))

    def test_against_may_be(self):
        rng = random.Random(93)
        for _ in range(40):
            book = random_book(rng, 3, 9)
            try:
                cells = may_be(book, 9)
                loads = [may_carry(book, k) for k in range(9) if book[2][k][0] == "send"]
            except errors.TooMany:
                continue
            self.assertEqual(loads, [can_bear(book, k) for k in range(9) if book[2][k][0] == "send"])
            for some in subsets(range(3)):
                wanted = {oracles.read(one, some) for one in cells}
                self.assertEqual(told_by(book, some), tuple(sorted(wanted)))

    def test_guarantees(self):
        rng = random.Random(94)
        for _ in range(40):
            book = random_book(rng, 4, 12)
            full = oracles.play(book, full_world(book))[0][-1]
            heard = {some: set(told_by(book, some)) for some in subsets(range(4))}
            for some, found in heard.items():
                self.assertEqual(min(found), held_version(book, some))
                self.assertEqual(max(found), oracles.read(full, some))
                self.assertEqual(0 in found, all(can_miss(book, some, version) for version in versions(book)))
                self.assertIs(can_tell(book, some, 0), 0 in found)
            for one, two in product(heard, heard):
                self.assertLessEqual(heard[tuple(sorted(set(one) | set(two)))], heard[one] | heard[two])

    def test_ways_and_worlds(self):
        rng = random.Random(95)
        for _ in range(25):
            book = random_book(rng, 4, 12)
            for some in subsets(range(4)):
                for version in told_by(book, some):
                    world = tell_world(book, some, version)
                    self.assertTrue(is_world(book, world))
                    self.assertEqual(oracles.read(oracles.play(book, world)[0][-1], some), version)
                    if version:
                        way = tell_way(book, some, version)
                        self.assertIs(is_way(book, version, way), True)
                        self.assertIs(shows(book, some, way), True)
                        self.assertEqual(way_world(book, some, way)[way[0][2]][1][0], (way[0][1], way[0][0]))

    def test_at_the_bounds(self):
        places = tuple(range(6))
        put = lambda k: ("put", k, k + 1, places, by_count(places, 3))
        send = lambda k: ("send", k, k % 6, (k + 1) % 6)
        book = (6, 3, tuple(put(k) if k % 3 == 0 else send(k) if k % 3 == 1 else ("lose", k, k % 6)
                            for k in range(24)))
        for some in ((0,), (1, 2), (0, 3, 5), places):
            found = told_by(book, some)
            self.assertEqual(found, tuple(version for version in (0,) + versions(book)
                                          if can_tell(book, some, version)))
            self.assertEqual(min(found), held_version(book, some))
            for version in found:
                world = tell_world(book, some, version)
                self.assertTrue(is_world(book, world))
                self.assertEqual(oracles.read(oracles.play(book, world)[0][-1], some), version)
            for version in versions(book):
                self.assertEqual(states(book, some, version), oracles.table(book, some, version))


class Edges(Case):
    def test_no_deeds_no_writes_nobody(self):
        for book in (EMPTY, (2, 5, (("copy", 0, 0, 1), ("send", 0, 1, 0), ("lose", 1, 0)))):
            for some in subsets((0, 1)):
                self.assertEqual(told_by(book, some), (0,))
                self.assertEqual(tell_world(book, some, 0), ((),) * last(book))
                self.assertIsNone(tell_world(book, some, 1))
        self.assertEqual(can_bear((2, 5, (("send", 0, 1, 0),)), 0), (0,))
        self.assertEqual((told_by(BOOK, ()), tell_way(BOOK, (), 1), states(BOOK, (), 1)), ((0,), None, ()))
        free = (2, 0, (("put", 0, 7, (), ((),)), ("strike", 0, 8, (1,), ((),))))
        self.assertEqual([told_by(free, some) for some in subsets((0, 1))], [(0,), (0,), (0, 8), (0, 8)])
        self.assertIsNone(tell_way(free, (0, 1), 7))

    def test_a_letter_that_comes_again_behind_a_loss(self):
        book = (2, 9, (("put", 0, 1, (0,), ((0,),)), ("lose", 1, 0), ("send", 2, 0, 1)))
        self.assertEqual([told_by(book, some) for some in subsets((0, 1))], [(0,), (0, 1), (0, 1), (0, 1)])
        self.assertEqual(tell_way(book, (1,), 1), ((2, 0, 0), (3, 1, 2)))
        self.assertEqual(states(book, (1,), 1), ((1, (1,), 0, 2), (1, (1,), 1, 0), (2, (0, 1), 0, 0), (2, (1,), 1, 0),
                                                 (3, (1,), 1, 0)))
        self.assertEqual(told_by((2, 0) + book[2:], (1,)), (0,))
        self.assertEqual(told_by((2, 1) + book[2:], (1,)), (0, 1))

    def test_a_send_whose_letter_comes_behind_a_loss(self):
        book = (2, 9, (("put", 0, 1, (0,), ((0,),)), ("send", 1, 0, 1), ("lose", 2, 1), ("lose", 3, 0)))
        self.assertEqual(tell_way(book, (1,), 1), ((1, 0, 0), (3, 1, 1)))
        self.assertEqual(states(book, (1,), 1), ((1, (), 1, 3), (1, (0,), 0, 0), (2, (), 1, 3), (3, (1,), 1, 0),
                                                 (4, (1,), 1, 0)))
        self.assertIs(is_way(book, 1, ((1, 0, 0), (2, 1, 1))), False)
        self.assertIs(is_way(book, 1, ((1, 0, 0), (4, 1, 1))), True)
        self.assertEqual(told_by(book, (0,)), (0, 1))

    def test_a_state_stands_right_behind_the_write(self):
        self.assertIs(begins(BOOK, 1, (1, (0, 2), 2, 0)), True)
        self.assertIs(begins(BOOK, 1, (1, (0,), 0, 0)), False)
        self.assertIs(begins(BOOK, 1, (2, (0, 2), 2, 0)), False)
        self.assertIs(begins(LOST, 3, (1, (), 0, 2)), True)
        self.assertIs(begins(LOST, 3, (1, (), 0, 7)), False)
        self.assertIs(begins(LOST, 3, (1, (), 2, 0)), False)
        self.assertEqual(states(BOOK, (1, 2), 2), ((3, (1, 2), 1, 0), (3, (1, 2), 2, 0)))

    def test_can_bear_is_of_the_book_ahead_of_the_send(self):
        self.assertEqual(can_bear(LOST, 3), told_by(upto(LOST, 3), (1,)))
        late = (2, 9, (("put", 0, 1, (0,), ((0,),)), ("send", 1, 1, 0), ("put", 2, 2, (1,), ((1,),))))
        self.assertEqual(can_bear(late, 1), (0,))


class Things(Case):
    def test_things_that_are_nearly_a_way(self):
        self.assertIs(is_way(BOOK, 1, WAY), True)
        for thing in (None, 0, True, "", (), [(1, 2, 0)], list(WAY), ([1, 2, 0], (3, 0, 1)), (1, 2, 0), ((1, 2),),
                      ((1, 2, 0, 0),), ((True, 2, 0),), ((1, 2, False),), ((1, 2, 0), (3, False, 1)),
                      ((1, 2, 0), (3, 0, True)), ((1, 2, 0), None), (("1", 2, 0),), (None,), "abc", ("abc",),
                      ((0, 2, 0),), ((4, 2, 0),), ((1, 1, 0),), ((3, 2, 2),), ((1, 2, 1),), ((1, 2, -3),),
                      ((1, 2, 0), (1, 0, 1)), ((1, 2, 0), (4, 0, 1)), ((2, 2, 0), (3, 0, 1)), ((1, 2, 0), (3, 1, 1)),
                      ((1, 2, 0), (3, 0, 2)), ((1, 2, 0), (3, 0, 0)), ((1, 2, 0), (3, 0, -2)), ((1, 2, 0), (3, 0, 7)),
                      ((3, 0, 1),), ((1, 2, 0), (3, 0, 1), (3, 0, 1)), (((1, 2, 0),),)):
            self.assertIs(is_way(BOOK, 1, thing), False, thing)
        for version in (-1, 0, 2, 3, GREAT):
            self.assertIs(is_way(BOOK, version, WAY), False)
        self.assertIs(is_way(BOOK, 2, ((3, 1, 2),)), True)
        self.assertIs(is_way(LOST, 3, ((1, 0, 0),)), False)
        self.assertIs(is_way(LOST, 3, ((2, 0, 0), (3, 1, 2))), True)
        self.assertIs(is_way(LOST, 3, ((2, 0, 0), (4, 1, 2))), False)
        self.assertIs(is_way(LOST, 3, ((1, 0, 0), (3, 1, 2))), False)

    def test_a_way_of_no_version_is_unfit(self):
        for action in (guard, shows, way_world):
            for way in ((), ((0, 0, 0),), ((1, 2, 0), (3, 1, 1)), ((3, 1, 0),), ((1, 2, 5),), ((1, 2, -1),)):
                self.assertRaises(errors.Unfit, action, BOOK, (0,), way)
                self.refused(errors.NoPlace, 3, action, BOOK, (3,), way)
        self.assertRaises(errors.CanNot, way_world, BOOK, (0, 1), WAY)
        self.assertRaises(errors.CanNot, way_world, BOOK, (), WAY)
        self.assertEqual((shows(BOOK, (), WAY), guard(BOOK, (), WAY)), (False, ((2,), (2,), (), ())))

    def test_refusals(self):
        for action in (can_tell, tell_way, tell_world, states):
            for version in (0, -5, GREAT):
                self.refused(errors.NoPlace, 4, action, BOOK, (0, 4, 5), version)
        self.refused(errors.NoPlace, -1, told_by, BOOK, (-1, 4))
        for number in (-1, 3):
            self.refused(errors.NoDeed, number, can_bear, BOOK, number)
        for version in (0, -1, 3, GREAT):
            self.refused(errors.NoVersion, version, states, BOOK, (0,), version)
            self.refused(errors.NoVersion, version, begins, BOOK, version, (1, (0,), 0, 0))
            self.assertIs(can_tell(BOOK, (0, 1), version), False)
            self.assertIsNone(tell_way(BOOK, (0, 1), version))
            self.assertIsNone(tell_world(BOOK, (0, 1), version))


if __name__ == "__main__":
    unittest.main()
