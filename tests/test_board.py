"""A Board beside a BOOK, a WORLD and a LOG that are kept by hand."""

import random
import unittest

from hintring import errors
from hintring.board import Board
from hintring.books import is_book
from hintring.families import by_count
from hintring.instead import told_by
from hintring.logs import is_log, next_answers
from hintring.strikes import least_grace
from hintring.worlds import fits, is_world
from tests import oracles
from tests.cases import Case
from tests.hands import METHODS, Hand, call, random_call
from tests.makers import all_worlds, subsets, world_count

TWO_OF = ((0, 1), (0, 2), (1, 2))
GREAT = 10 ** 9


class Boards(Case):
    def look(self, board, hand):
        self.assertEqual((board.book(), board.world(), board.log()), (hand.book(), hand.world(), hand.log()))
        self.assertEqual((board.cells(), board.tick(), board.letters()), (hand.cells(), hand.now_tick, hand.letters()))
        self.assertIs(is_book(board.book()), True)
        self.assertIs(is_world(board.book(), board.world()), True)
        self.assertIs(is_log(board.book(), board.log()), True)
        self.assertIs(fits(board.book(), board.world(), board.log()), True)

    def step(self, board, hand, word, args):
        """One call at both; returns whether it was a step."""
        refusal = hand.refusal(word, args)
        if refusal is None:
            self.assertEqual(call(board, word, args), hand.do(word, args))
            return True
        kind, number = refusal
        with self.assertRaises(kind) as seen:
            call(board, word, args)
        self.assertIs(type(seen.exception), kind)
        self.assertEqual(getattr(seen.exception, "number", None), number)
        return False

    def test_rows_of_calls(self):
        rng, refused = random.Random(1500), {}
        for _ in range(120):
            many = rng.choice((1, 2, 3, 3, 4))
            board, hand = Board(many, rng.randrange(0, 4)), None
            hand = Hand(many, board.book()[1])
            for _ in range(rng.randrange(0, 30)):
                word, args = random_call(rng, hand) if many > 1 else ("wait", (1,))
                if not self.step(board, hand, word, args):
                    kind = hand.refusal(word, args)[0]
                    refused[kind] = refused.get(kind, 0) + 1
                self.look(board, hand)
        self.assertTrue(min(refused.get(kind, 0) for kind in
                            (errors.NoPlace, errors.NoDeed, errors.CanNot, errors.Unfit, errors.TooMany)) > 5, refused)

    def test_undo_and_redo(self):
        rng = random.Random(1501)
        for _ in range(60):
            board, stages, at = Board(3, 2), [Hand(3, 2)], 0
            for _ in range(40):
                kind = rng.choice(("step", "step", "step", "undo", "redo"))
                if kind == "undo" and at == 0 or kind == "redo" and at == len(stages) - 1:
                    self.assertRaises(errors.NothingDone, getattr(board, kind))
                elif kind == "step":
                    hand = stages[at].twin()
                    if self.step(board, hand, *random_call(rng, hand)):
                        stages, at = stages[:at + 1] + [hand], at + 1
                else:
                    self.assertIsNone(getattr(board, kind)())
                    at += 1 if kind == "redo" else -1
                self.look(board, stages[at])

    def test_what_raises_changes_nothing(self):
        board = Board(3, 2)
        board.put((0, 1), (0, 1, 2), TWO_OF)
        board.lose(0)
        board.undo()
        kept = board.twin()
        for word, args in (("put", ((0,), (0, 1), TWO_OF)), ("copy", (1, 1)), ("send", (0, 9)), ("come", (0, 3)),
                           ("come", (7, 0)), ("read", ((5,),)), ("lose", (-1,))):
            with self.assertRaises((errors.Unfit, errors.NoPlace, errors.NoDeed)):
                call(board, word, args)
            self.assertTrue(board == kept)
        # What was taken back can still be made again, as no step came between.
        board.redo()
        self.assertEqual(board.book()[2][-1], ("lose", 0, 0))
        board.undo()
        board.wait(0)
        self.assertRaises(errors.NothingDone, board.redo)
        self.assertEqual(len(kept.book()[2]), 1)
        kept.redo()
        self.assertEqual(kept.book()[2][-1], ("lose", 0, 0))

    def test_twins_go_on_by_themselves(self):
        rng = random.Random(1502)
        for _ in range(60):
            board = Board(3, 1)
            hand = Hand(3, 1)
            for _ in range(rng.randrange(0, 12)):
                self.step(board, hand, *random_call(rng, hand))
            twin, other = board.twin(), hand.twin()
            self.assertTrue(twin == board)
            for _ in range(6):
                self.step(twin, other, *random_call(rng, other))
                self.look(board, hand)
                self.look(twin, other)
            self.step(board, hand, *random_call(rng, hand))
            self.look(board, hand)
            self.look(twin, other)

    def test_a_twin_has_the_same_steps(self):
        board = Board(2, 0)
        board.wait(1)
        board.copy(0, 1)
        board.lose(0)
        board.undo()
        twin = board.twin()
        board.undo()
        twin.redo()
        self.assertRaises(errors.NothingDone, twin.redo)
        self.assertEqual((len(board.book()[2]), len(twin.book()[2])), (1, 3))
        for _ in range(3):
            twin.undo()
        self.assertRaises(errors.NothingDone, twin.undo)
        self.assertTrue(twin == Board(2, 0))
        board.redo()
        board.redo()
        self.assertEqual(board.book()[2][-1], ("lose", 1, 0))


class Asked(Case):
    def random_board(self, rng, many=3, steps=9):
        board, hand = Board(many, rng.randrange(0, 3)), None
        hand = Hand(many, board.book()[1])
        for _ in range(rng.randrange(1, steps)):
            word, args = random_call(rng, hand, 0)
            if hand.refusal(word, args) is None:
                self.assertEqual(call(board, word, args), hand.do(word, args))
        return board

    def test_may_miss(self):
        rng, seen = random.Random(1503), set()
        for _ in range(150):
            board = self.random_board(rng)
            for some in subsets(range(3)):
                wanted = tuple(deed[2] for deed in board.book()[2] if oracles.is_written(deed)
                               and oracles.misses(board.book(), some, deed[2]))
                self.assertEqual(board.may_miss(some), wanted)
                seen.add(len(wanted))
        self.assertTrue({0, 1, 2} <= seen)

    def test_as_the_functions_tell(self):
        rng = random.Random(1504)
        for _ in range(120):
            board = self.random_board(rng, rng.choice((2, 3, 4)))
            book, log = board.book(), board.log()
            for some in subsets(range(book[0]))[:6]:
                self.assertEqual(board.may_tell(some), told_by(book, some))
                self.assertEqual(board.answers(some), next_answers(book, log, len(book[2]), some))
                try:
                    wanted = least_grace(book, some)
                except errors.TooMany:
                    self.assertRaises(errors.TooMany, board.least_grace, some)
                else:
                    self.assertEqual(board.least_grace(some), wanted)

    def test_answers_by_all_worlds(self):
        rng, met = random.Random(1505), 0
        while met < 60:
            board = self.random_board(rng, 3, 7)
            book, log = board.book(), board.log()
            if world_count(book) > 3000:
                continue
            met += 1
            rows = [oracles.play(book, world)[0] for world in all_worlds(book)]
            kept = [row for row in rows if all(oracles.read(row[moment], some) == told for moment, some, told in log)]
            for some in subsets(range(3)):
                self.assertEqual(board.answers(some), tuple(sorted({oracles.read(row[-1], some) for row in kept})))
                self.assertEqual(board.may_tell(some), tuple(sorted({oracles.read(row[-1], some) for row in rows})))

    def test_what_is_told_is_one_of_the_answers(self):
        rng = random.Random(1506)
        for _ in range(150):
            board = self.random_board(rng)
            for some in subsets(range(3)):
                answers = board.answers(some)
                self.assertTrue(set(answers) <= set(board.may_tell(some)))
                if len(board.log()) < 5:
                    self.assertIn(board.read(some), answers)
                    self.assertEqual(board.answers(some), (board.log()[-1][2],))
                    board.undo()

    def test_reads_of_one_lot_never_fall_while_nothing_is_lost(self):
        rng, rose = random.Random(1507), 0
        for _ in range(120):
            board, hand, told = Board(3, 2), Hand(3, 2), {}
            for _ in range(12):
                word, args = random_call(rng, hand, 0)
                if word in ("lose", "read") or hand.refusal(word, args) is not None:
                    continue
                call(board, word, args)
                hand.do(word, args)
                for some in subsets(range(3)):
                    now = board.twin().read(some)
                    self.assertGreaterEqual(now, told.get(some, 0))
                    rose += now > told.get(some, 0)
                    told[some] = now
        self.assertGreater(rose, 300)


class Edges(Case):
    def test_at_first(self):
        board = Board(2, 3)
        self.assertEqual((board.book(), board.world(), board.log(), board.cells(), board.tick(), board.letters()),
                         ((2, 3, ()), (), (), (0, 0), 0, ()))
        self.assertEqual((board.may_miss((0,)), board.may_tell((0,)), board.answers((0, 1)), board.least_grace((0,))),
                         ((), (0,), (0,), 0))
        self.assertRaises(errors.NothingDone, board.undo)
        self.assertRaises(errors.NothingDone, board.redo)
        self.assertEqual(board.read(()), 0)
        self.assertEqual(board.log(), ((0, (), 0),))

    def test_versions(self):
        board = Board(2, 0)
        self.assertEqual([board.put((0,), (0,), ((0,),)), board.strike((), (), ((),)), board.put((), (1,), ((),))],
                         [1, 2, 3])
        self.assertEqual([deed[0] for deed in board.book()[2]], ["put", "strike", "put"])
        board.undo()
        self.assertEqual(board.strike((1,), (0, 1), ((0,), (1,))), 3)
        self.assertEqual(board.cells(), (1, 3))

    def test_the_24th_and_25th_deed(self):
        board = Board(2, 1)
        for _ in range(23):
            board.wait(0)
        board.put((0,), (0, 1), ((0,),))
        kept = board.twin()
        for word, args in (("wait", (0,)), ("copy", (0, 1)), ("copy", (0, 0)), ("send", (1, 1)), ("lose", (0,)),
                           ("put", ((), (0,), ())), ("strike", ((0,), (0,), ((0,),)))):
            self.assertRaises(errors.TooMany, call, board, word, args)
        self.refused(errors.NoPlace, 2, board.copy, 2, 2)
        self.refused(errors.NoPlace, 7, board.put, (7,), (0,), ())
        self.assertTrue(board == kept)
        board.come(23, 1)
        self.assertEqual((board.read((0, 1)), board.cells()), (1, (1, 1)))
        board.undo()
        board.undo()
        board.undo()
        board.lose(1)
        self.assertEqual(len(board.book()[2]), 24)

    def test_the_5th_and_6th_entry(self):
        board = Board(2, 1)
        board.put((0,), (0, 1), ((0,),))
        self.assertEqual([board.read(some) for some in ((0,), (1,), (), (0, 1), (0,))], [1, 0, 0, 1, 1])
        self.refused(errors.NoPlace, 2, board.read, (0, 2))
        self.assertRaises(errors.TooMany, board.read, (0,))
        self.assertEqual((len(board.log()), board.answers((0,))), (5, (1,)))
        board.undo()
        self.assertEqual(board.read((1,)), 0)
        board.wait(0)
        self.assertRaises(errors.TooMany, board.read, ())

    def test_letters_wait_for_no_read(self):
        board = Board(2, 5)
        board.put((0,), (0, 1), ((0,),))
        board.read((1,))
        self.assertEqual(board.letters(), ())
        self.assertRaises(errors.CanNot, board.come, 0, 1)
        board.undo()
        self.assertEqual(board.letters(), ((0, 0), (0, 1)))
        board.come(0, 1)
        self.assertEqual(board.letters(), ((0, 0),))
        self.assertRaises(errors.CanNot, board.come, 0, 1)
        board.wait(5)
        self.assertEqual(board.letters(), ((0, 0), (0, 1)))
        board.come(0, 1)
        board.come(0, 0)
        self.assertEqual(board.world(), (((0,), ((0, 2), (1, 1), (1, 2))), ()))
        board.wait(1)
        self.assertEqual(board.letters(), ())
        self.assertRaises(errors.CanNot, board.come, 0, 1)
        self.assertRaises(errors.CanNot, board.come, 1, 1)

    def test_refusals_of_come(self):
        board = Board(3, 2)
        board.put((0,), (0, 1), ((0,),))
        self.refused(errors.NoPlace, 3, board.come, 9, 3)
        self.refused(errors.NoPlace, -1, board.come, 0, -1)
        self.refused(errors.NoDeed, 1, board.come, 1, 2)
        self.refused(errors.NoDeed, -1, board.come, -1, 0)
        self.assertRaises(errors.CanNot, board.come, 0, 2)

    def test_refusals_of_places(self):
        board = Board(3, 2)
        for action in (board.put, board.strike):
            self.refused(errors.NoPlace, 5, action, (0, 5), (4,), ((0,),))
            self.refused(errors.NoPlace, 4, action, (0,), (0, 4, 6), ())
            for args in (((0,), (0, 1), ()), ((0,), (0, 1), ((0,), (0, 1))), ((0,), (0, 1), ((0, 2),)),
                         ((0,), (0, 1), ((9,),)), ((2,), (0, 1), ((0,),)), ((0, 2), (0, 1), ((0,),)),
                         ((1,), (0, 1), ((0,),)), ((), (0, 1), ((0,),)), ((0,), (0, 1), ((1,), (0,)))):
                self.assertRaises(errors.Unfit, action, *args)
        for action in (board.copy, board.send):
            self.refused(errors.NoPlace, 3, action, 3, 9)
            self.refused(errors.NoPlace, 9, action, 0, 9)
            self.assertRaises(errors.Unfit, action, 1, 1)
        self.refused(errors.NoPlace, 3, board.lose, 3)
        for action in (board.read, board.may_miss, board.may_tell, board.answers, board.least_grace):
            self.refused(errors.NoPlace, 3, action, (0, 3, 4))
            self.refused(errors.NoPlace, -1, action, (-1, 3))

    def test_too_many_as_the_functions(self):
        board = Board(3, 0)
        for _ in range(10):
            board.send(0, 1)
        self.refused(errors.NoPlace, 3, board.answers, (3,))
        self.assertRaises(errors.TooMany, board.answers, (0,))
        self.assertEqual(board.may_tell((0,)), (0,))
        board = Board(6, 0)
        six = by_count(range(6), 3)
        for _ in range(3):
            board.strike((0, 1, 2), (0, 1, 2, 3, 4, 5), six)
        self.assertRaises(errors.TooMany, board.least_grace, (0,))
        self.refused(errors.NoPlace, 6, board.least_grace, (6,))

    def test_equal(self):
        one, other = Board(2, 1), Board(2, 1)
        self.assertTrue(one == other and not one != other)
        one.wait(0)
        self.assertTrue(one != other and not one == other)
        one.undo()
        self.assertTrue(one == other)
        self.assertTrue(Board(2, 1) != Board(3, 1) and Board(2, 1) != Board(2, 2))
        for board in (one, other):
            board.put((0,), (0, 1), ((0,), (1,)))
        self.assertTrue(one == other)
        one.come(0, 1)
        self.assertTrue(one != other)
        one.undo()
        one.read((0,))
        self.assertTrue(one != other)
        other.read((0,))
        self.assertTrue(one == other)
        for thing in (None, 0, (), "", one.book(), (one.book(), one.world(), one.log()), [one], object()):
            self.assertTrue(one != thing and not one == thing)
            self.assertTrue(thing != one and not thing == one)

    def test_no_iteration(self):
        for action in (iter, list, tuple, sorted, enumerate):
            self.assertRaises(TypeError, action, Board(2, 1))
        with self.assertRaises(TypeError):
            for _ in Board(2, 1):
                pass

    def test_by_names_and_with_lists(self):
        board = Board(life=2, many=3)
        takers, homes, family = [0, 1], [0, 1, 2], [[0, 1], [0, 2], [1, 2]]
        self.assertEqual(board.put(family=family, takers=takers, homes=homes), 1)
        takers.append(2)
        homes.pop()
        family[0][0] = 2
        self.assertEqual((board.book(), board.world()), ((3, 2, (("put", 0, 1, (0, 1, 2), TWO_OF),)), (((0, 1), ()),)))
        board.copy(one=0, other=2)
        board.send(other=1, one=2)
        board.lose(place=0)
        board.wait(ticks=2)
        board.come(place=1, number=2)
        some = [2]
        self.assertEqual(board.read(some=some), 1)
        some.append(0)
        self.assertEqual(board.log(), ((5, (2,), 1),))
        self.assertEqual((board.may_miss(some=[0]), board.may_tell([0]), board.answers([0]), board.least_grace([0, 1])),
                         ((1,), (0, 1), (0, 1), 0))
        self.assertEqual(board.strike([0], [0], [[0]]), 2)

    def test_defined_in_the_class_itself(self):
        for name in METHODS + ("undo", "redo", "book", "world", "log", "cells", "tick", "letters", "may_miss",
                               "may_tell",
                               "answers", "least_grace", "twin", "__init__", "__eq__"):
            self.assertIn(name, vars(Board))

    def test_at_the_bounds(self):
        board = Board(6, GREAT)
        six, three = (0, 1, 2, 3, 4, 5), by_count(range(6), 3)
        for at in range(24):
            if at % 3 == 0:
                board.put((0, 1, 2), six, three)
            elif at % 3 == 1:
                board.copy(at % 6, (at + 1) % 6)
            else:
                board.lose(at % 6)
            if at % 5 == 4:
                board.read((at % 6, ))
        for number, place in board.letters()[:4]:
            board.come(number, place)
        self.assertEqual(len(board.may_tell(six)) > 0, True)
        self.assertIn(board.cells()[0], board.answers((0,)))
        self.assertTrue(set(board.may_miss((0, 1))) <= set(range(1, 9)))


if __name__ == "__main__":
    unittest.main()
