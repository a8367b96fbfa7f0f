"""Books, against plain walks over their DEEDS."""

import random
import unittest

from hintring import errors
from hintring.books import (beyond, comings, do_commute, exchanged, is_book, is_deed, is_strike, joined, last,
                            later, letters, number_of, renamed, spread, tick_at, touching, upto, versions,
                            widened, with_deed, without_deed, writes)
from hintring.families import by_count
from tests import oracles
from tests.cases import Case
from tests.makers import all_worlds, random_book, small_books, subsets, when

EMPTY = (1, 0, ())
TWO_OF = ((0, 1), (0, 2), (1, 2))
PUT = ("put", 3, 4, (0, 1, 2), TWO_OF)
BOOK = (3, 2, (("wait", 0), ("send", 1, 0, 1), PUT, ("lose", 3, 1), ("strike", 5, 9, (), ((),)), ("copy", 5, 2, 0)))
GREAT = 10 ** 9


def random_books(seed, count):
    rng = random.Random(seed)
    return [random_book(rng, rng.randrange(1, 5), rng.randrange(0, 9)) for _ in range(count)]


def touches(deed):
    return set(deed[3]) if oracles.is_written(deed) else set(deed[2:])


class Asking(Case):
    def test_against_a_plain_walk(self):
        for book in random_books(30, 200):
            deeds, end = book[2], len(book[2])
            wrote = [number for number in range(end) if oracles.is_written(deeds[number])]
            self.assertEqual(last(book), end)
            self.assertEqual([tick_at(book, k) for k in range(end + 1)], [0] + [deed[1] for deed in deeds])
            self.assertEqual(writes(book), tuple(wrote))
            self.assertEqual(versions(book), tuple(deeds[number][2] for number in wrote))
            self.check_numbers(book, wrote)
            self.check_letters(book)
            for place in range(book[0]):
                met = tuple(number for number in range(end) if place in touches(deeds[number]))
                self.assertEqual(touching(book, place), met)

    def check_numbers(self, book, wrote):
        for version in range(-1, 22):
            numbers = [number for number in wrote if book[2][number][2] == version]
            if numbers:
                self.assertEqual(number_of(book, version), numbers[0])
                self.assertIs(is_strike(book, version), book[2][numbers[0]][0] == "strike")
            else:
                self.refused(errors.NoVersion, version, number_of, book, version)
                self.refused(errors.NoVersion, version, is_strike, book, version)

    def check_letters(self, book):
        sent = []
        for number, deed in enumerate(book[2]):
            homes = oracles.targets(deed)
            sent += [(number, place) for place in homes]
            self.assertEqual(comings(book, number), tuple(when(book, number)) if homes else ())
        self.assertEqual(letters(book), tuple(sorted(sent)))

    def test_edges(self):
        self.assertEqual((last(EMPTY), tick_at(EMPTY, 0), writes(EMPTY), versions(EMPTY), letters(EMPTY)),
                         (0, 0, (), (), ()))
        self.assertEqual(comings((2, 0, (PUT[:3] + ((0,), ((0,),)),)), 0), (1,))
        self.assertEqual(comings(BOOK, 4), ())
        self.assertEqual(comings(BOOK, 1), (2, 3, 4))
        self.assertEqual(comings((2, GREAT, (("send", 0, 0, 1), ("wait", GREAT), ("wait", GREAT + 1))), 0), (1, 2))
        self.assertEqual(tick_at(BOOK, 6), 5)
        self.assertEqual(touching(BOOK, 2), (2, 5))

    def test_refusals(self):
        for moment in (-1, 7, GREAT):
            for action in (tick_at, upto, beyond):
                self.refused(errors.NoMoment, moment, action, BOOK, moment)
        for number in (-1, 6, GREAT):
            for action in (comings, without_deed, do_commute, exchanged):
                self.refused(errors.NoDeed, number, action, BOOK, number)
        for place in (-1, 3, GREAT):
            self.refused(errors.NoPlace, place, touching, BOOK, place)
        self.refused(errors.NoVersion, 0, number_of, EMPTY, 0)
        self.refused(errors.NoDeed, 0, comings, EMPTY, 0)
        self.refused(errors.NoMoment, 1, tick_at, EMPTY, 1)


class Cutting(Case):
    def test_upto_beyond_and_joined(self):
        for book in random_books(31, 60):
            for moment in range(last(book) + 1):
                ahead, behind = upto(book, moment), beyond(book, moment)
                self.assertEqual(ahead, book[:2] + (book[2][:moment],))
                self.assertEqual(behind, book[:2] + (book[2][moment:],))
                self.assertEqual(joined(ahead, behind), book)

    def test_joined_refuses(self):
        one = (2, 1, (("put", 4, 5, (0,), ((0,),)), ("wait", 6)))
        self.assertEqual(joined(one, (2, 1, (("wait", 6),))), (2, 1, one[2] + (("wait", 6),)))
        for other in ((3, 1, ()), (2, 2, ()), (2, 1, (("wait", 5),)), (2, 1, (("put", 6, 5, (0,), ((0,),)),)),
                      (2, 1, (("strike", 7, 4, (0,), ((0,),)),)), (2, 1, (("wait", GREAT + 1),)),
                      (2, 1, (("wait", 6),) * 23)):
            self.assertRaises(errors.Unfit, joined, one, other)
        self.assertEqual(len(joined(one, (2, 1, (("wait", 6),) * 22))[2]), 24)

    def test_with_and_without_deed(self):
        for book in random_books(32, 60):
            for number in range(last(book)):
                left = without_deed(book, number)
                self.assertEqual(left, book[:2] + (book[2][:number] + book[2][number + 1:],))
                self.assertEqual(with_deed(left, number, book[2][number]), book)

    def test_with_deed_refuses(self):
        self.assertEqual(with_deed(EMPTY, 0, ("wait", 7)), (1, 0, (("wait", 7),)))
        self.assertEqual(with_deed(BOOK, 6, ("wait", 5))[2][6], ("wait", 5))
        for number in (-1, 7):
            self.refused(errors.NoDeed, number, with_deed, BOOK, number, ("nothing",))
        for number, deed in ((0, ("wait", 1)), (6, ("wait", 4)), (2, ("wait", 4)), (0, ()), (0, ("wait",)),
                             (1, ("put", 1, 4, (0,), ((0,),))), (6, ("put", 5, 9, (0,), ((0,),))),
                             (0, ("lose", 0, 3)), (0, ("copy", 0, 1, 1)), (0, ("wait", True)), (0, (5, 0)),
                             (6, ("wait", GREAT + 1)), (6, ("put", 5, GREAT + 1, (0,), ((0,),))),
                             (0, ("put", 0, 1, (1, 0), ((0,),)))):
            self.assertRaises(errors.Unfit, with_deed, BOOK, number, deed)
        self.assertEqual(with_deed(BOOK, 6, ["put", GREAT, GREAT, [0, 2], [[0], [2]]])[2][6],
                         ("put", GREAT, GREAT, (0, 2), ((0,), (2,))))
        full = (2, 0, (("wait", 1),) * 23)
        self.assertEqual(last(with_deed(full, 3, ("wait", 1))), 24)
        self.assertRaises(errors.Unfit, with_deed, (2, 0, (("wait", 1),) * 24), 3, ("wait", 1))

    def test_seventy_lots(self):
        homes = tuple(range(8))
        put = ("put", 0, 1, homes, by_count(homes, 4))
        self.assertEqual(with_deed((8, 0, ()), 0, put), (8, 0, (put,)))
        self.assertRaises(errors.Unfit, with_deed, (9, 0, ()), 0, put)


class Exchanging(Case):
    def test_do_commute_against_the_words(self):
        for book in random_books(33, 150):
            for number in range(last(book) - 1):
                one, other = book[2][number:number + 2]
                able = one[1] == other[1] and not touches(one) & touches(other) \
                    and not (oracles.is_written(one) and oracles.is_written(other))
                self.assertIs(do_commute(book, number), able)
                if able:
                    wanted = book[2][:number] + (other, one) + book[2][number + 2:]
                    self.assertEqual(exchanged(book, number), book[:2] + (wanted,))
                else:
                    self.assertRaises(errors.CanNot, exchanged, book, number)

    def test_the_last_deed(self):
        for action in (do_commute, exchanged):
            self.refused(errors.NoDeed, 6, action, BOOK, 5)
            self.refused(errors.NoDeed, 0, action, EMPTY, 0)
            self.refused(errors.NoDeed, 1, action, (1, 0, (("wait", 0),)), 0)

    def test_two_writes_without_homes_do_not_commute(self):
        book = (2, 0, (("put", 0, 1, (), ((),)), ("put", 0, 2, (0,), ((0,),)), ("wait", 0)))
        self.assertEqual([do_commute(book, 0), do_commute(book, 1)], [False, True])


class Renaming(Case):
    def test_renamed(self):
        rng = random.Random(34)
        for book in random_books(35, 100):
            names = tuple(rng.sample(range(book[0]), book[0]))
            fresh = renamed(book, names)
            self.assertTrue(is_book(fresh))
            back = tuple(names.index(place) for place in range(book[0]))
            self.assertEqual(renamed(fresh, back), book)
            for old, new in zip(book[2], fresh[2]):
                self.assertEqual(old[:2], new[:2])
                if oracles.is_written(old):
                    self.assertEqual((old[2], {names[place] for place in old[3]}), (new[2], set(new[3])))
                    self.assertEqual({frozenset(names[place] for place in lot) for lot in old[4]},
                                     {frozenset(lot) for lot in new[4]})
                else:
                    self.assertEqual(tuple(names[place] for place in old[2:]), new[2:])
        for names in ((), (0, 1), (0, 1, 1), (0, 1, 3), (-1, 0, 1), (0, 1, 2, 3), (0, 1, 2, 0), (1, 2, 3)):
            self.assertRaises(errors.Unfit, renamed, BOOK, names)
        self.assertRaises(errors.Unfit, renamed, (9, 0, ()), tuple(range(9)))

    def test_spread(self):
        self.assertEqual(versions(spread(BOOK, (7, 20))), (7, 20))
        self.assertEqual(spread(spread(BOOK, (7, 20)), (4, 9)), BOOK)
        self.assertEqual(spread(EMPTY, ()), EMPTY)
        self.assertEqual(spread(BOOK, (1, GREAT))[2][4], ("strike", 5, GREAT, (), ((),)))
        for numbers in ((), (1,), (1, 2, 3), (2, 2), (3, 2), (0, 1), (-1, 5), (1, GREAT + 1)):
            self.assertRaises(errors.Unfit, spread, BOOK, numbers)
        self.assertRaises(errors.Unfit, spread, EMPTY, (1,))

    def test_later(self):
        for book in random_books(36, 30):
            self.assertEqual(later(book, 0), book)
            wanted = tuple((deed[0], deed[1] + 5) + deed[2:] for deed in book[2])
            self.assertEqual(later(book, 5), book[:2] + (wanted,))
            self.assertEqual(later(later(book, 5), -5), book)
        self.assertEqual(later(EMPTY, -9), EMPTY)
        self.assertEqual(later((1, 0, (("wait", 3),)), -3), (1, 0, (("wait", 0),)))
        self.assertEqual(later((1, 0, (("wait", 3),)), GREAT - 3), (1, 0, (("wait", GREAT),)))
        self.assertRaises(errors.Unfit, later, (1, 0, (("wait", 3),)), -4)
        self.assertRaises(errors.Unfit, later, (1, 0, (("wait", 3),)), GREAT - 2)
        self.assertRaises(errors.Unfit, later, (1, GREAT + 1, ()), 0)

    def test_widened(self):
        self.assertEqual(widened(BOOK, 3), BOOK)
        self.assertEqual(widened(BOOK, 8), (8,) + BOOK[1:])
        for many in (2, 0, -1, 9, GREAT):
            self.assertRaises(errors.Unfit, widened, BOOK, many)
        self.assertRaises(errors.Unfit, widened, (3, 0, ()), 2)


class Guarantees(unittest.TestCase):
    """What can be told and missed behind all, by all WORLDS."""

    def told(self, book):
        cells = {oracles.play(book, world)[0][-1] for world in all_worlds(book)}
        return {some: {oracles.read(one, some) for one in cells} for some in subsets(range(book[0]))}

    def test_for_all_worlds(self):
        rng = random.Random(37)
        for book in small_books(38, 80, 250, many=(2, 3), deeds=(2, 3, 4)):
            told = self.told(book)
            for number in range(last(book) - 1):
                if do_commute(book, number):
                    self.assertEqual(self.told(exchanged(book, number)), told)
            self.assertEqual(self.told(later(book, 3)), told)
            number = rng.randrange(last(book))
            self.assertEqual(self.told(with_deed(book, number, ("wait", book[2][number][1]))), told)
            self.check_names(rng, book, told)

    def check_names(self, rng, book, told):
        names = tuple(rng.sample(range(book[0]), book[0]))
        fresh = self.told(renamed(book, names))
        for some, found in told.items():
            self.assertEqual(fresh[tuple(sorted(names[place] for place in some))], found)
        numbers = tuple(3 * k + 2 for k in range(len(versions(book))))
        exchange = dict(zip((0,) + versions(book), (0,) + numbers))
        fresh = self.told(spread(book, numbers))
        self.assertEqual(fresh, {some: {exchange[k] for k in found} for some, found in told.items()})
        fresh = self.told(widened(book, book[0] + 1))
        self.assertEqual({some: fresh[some] for some in told}, told)


class Things(unittest.TestCase):
    GOOD = (PUT, ("strike", 0, 1, (), ((),)), ("put", 0, 1, (0,), ((),)), ("copy", 0, 0, 2), ("send", 10 ** 30, 2, 1),
            ("lose", 0, 0), ("wait", 0), ("put", 10 ** 20, 10 ** 30, (1, 2), ((1,), (2,))))
    BAD = (None, True, 0, 3, "", "wait", (), ("wait",), (0, 0), ("wait", -1), ("wait", True), ("wait", "0"),
           ("wait", None), ("wait", 0, 0), ["wait", 0], ("Wait", 0), (("wait",), 0), (["wait"], 0), ("lose", 0),
           ("lose", 0, 3), ("lose", 0, -1), ("lose", 0, True), ("lose", 0, False), ("lose", 0, 0, 0),
           ("lose", 0, (0,)), ("copy", 0, 0), ("copy", 0, 1, 1), ("copy", 0, 0, 3), ("copy", 0, 3, 0),
           ("copy", 0, -1, 0), ("copy", 0, True, 0), ("copy", 0, 0, True), ("copy", 0, 0, 1, 2), ("copy", -1, 0, 1),
           ("send", 0, 0, 0), ("send", 0, 0, None), ("send", 0, "0", "1"), ("send", True, 0, 1), ("take", 0, 0, 1),
           ("put", 0, 1, (0,)), ("put", 0, 1, (0,), ((0,),), ()), ("put", 0, 0, (0,), ((0,),)),
           ("put", 0, -1, (0,), ((0,),)), ("put", 0, True, (0,), ((0,),)), ("put", 0, 1, (0, 0), ((0,),)),
           ("put", 0, 1, (1, 0), ((0,),)), ("put", 0, 1, (3,), ((3,),)), ("put", 0, 1, [0], ((0,),)),
           ("put", 0, 1, (0,), [(0,)]), ("put", 0, 1, (0,), ([0],)), ("put", 0, 1, (0,), ()),
           ("put", 0, 1, (0,), ((1,),)), ("put", 0, 1, (0, 1), ((0,), (0, 1))), ("put", 0, 1, (0, 1), ((1,), (0,))),
           ("put", 0, 1, (0, True), ((0,),)), ("put", 0, 1, (0, 1), ((True,),)), ("put", 0, 1, 0, ((0,),)),
           ("put", 0, 1, None, ((),)), ("put", 0, 1, (), ()), ("put", 0, 1, (), None), ("put", 0, 1, "", ((),)),
           ("strike", -1, 1, (0,), ((0,),)), ("strike", 0, "1", (0,), ((0,),)),
           ("put", 0, (((((((((1,),),),),),),),),), (0,), ((0,),)))

    def test_is_deed(self):
        for thing in self.GOOD:
            self.assertIs(is_deed(3, thing), True, thing)
            self.assertIs(is_book((3, 0, (thing,))), True, thing)
        for thing in self.BAD:
            self.assertIs(is_deed(3, thing), False, thing)
            self.assertIs(is_book((3, 0, (thing,))), False, thing)
        self.assertIs(is_deed(10 ** 30, ("lose", 0, 10 ** 29)), True)
        self.assertIs(is_deed(1, ("copy", 0, 0, 1)), False)
        self.assertIs(is_deed(0, ("lose", 0, 0)), False)
        self.assertIs(is_deed(-3, ("lose", 0, 0)), False)
        self.assertIs(is_deed(1, ("wait", 0)), True)
        self.assertIs(is_deed(0, ("wait", 0)), False)

    def test_is_book(self):
        for thing in (EMPTY, BOOK, (10 ** 30, 10 ** 30, ()), (9, 0, (("wait", 3),) * 100),
                      (2, 0, tuple(("put", 0, k + 1, (0, 1), ((0,), (1,))) for k in range(500)))):
            self.assertIs(is_book(thing), True)
        wait, put = ("wait", 1), lambda tick, version: ("put", tick, version, (0,), ((0,),))
        for thing in (None, 0, True, "", "book", (), (1, 0), (1, 0, (), ()), (0, 0, ()), (-1, 0, ()), (True, 0, ()),
                      ("1", 0, ()), (1, -1, ()), (1, False, ()), (1, None, ()), (1, 0, []), [1, 0, ()], (1, 0, None),
                      (1, 0, ""), (1, 0, 0), (1, 0, (None,)), (1, 0, wait), (1, 0, (wait, ("wait", 0))),
                      (1, 0, (put(0, 2), put(0, 2))), (1, 0, (put(0, 2), wait, put(1, 1))),
                      (1, 0, (put(0, 1), ("strike", 0, 1, (0,), ((0,),)))), (1, 0, (wait, ["wait", 1])),
                      (1, 0, ((wait,),)), ((1, 0, ()),), (1, 0, (put(1, 1), put(0, 2)))):
            self.assertIs(is_book(thing), False, thing)


if __name__ == "__main__":
    unittest.main()
