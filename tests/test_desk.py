"""A desk: rows of requests beside the calls that they ask for."""

import random
import unittest

from hintring import errors
from hintring.board import Board
from hintring.books import last
from hintring.desk import is_request, replies, reply
from hintring.texts import book_text, log_text, world_text
from tests.cases import Case
from tests.hands import Hand, random_call

GREAT = 10 ** 9
REQUESTS = ("put 0 0 0", "strike - - -", "copy 0 1", "send 9 9", "lose 0", "wait 0", "come 3 7", "undo", "redo",
            "read -",
            "miss 0,1", "tell 5", "answers -", "grace 0", "letters", "cells", "tick", "moment", "book", "world", "log")


def row(numbers):
    return ",".join(map(str, numbers)) if numbers else "-"


def line_for(word, args):
    """The request for a call of this method."""
    if word in ("put", "strike"):
        return " ".join((word, row(args[0]), row(args[1]), "+".join(map(row, args[2]))))
    if word == "read":
        return f"read {row(args[0])}"
    return " ".join((word,) + tuple(map(str, args)))


def in_line(text):
    return "; ".join(text.split("\n")[:-1]) if text else "-"


def told_by_calls(board, line):
    """What is told for a request, by the calls that it asks for."""
    words = line.split(" ")
    sets = lambda word: tuple(map(int, word.split(","))) if word != "-" else ()
    some = sets(words[1]) if words[0] in ("read", "miss", "tell", "answers", "grace") else None
    family = tuple(map(sets, words[3].split("+"))) if words[0] in ("put", "strike") else None
    calls = {
        "put": lambda: str(board.put(sets(words[1]), sets(words[2]), family)),
        "strike": lambda: str(board.strike(sets(words[1]), sets(words[2]), family)),
        "copy": lambda: board.copy(int(words[1]), int(words[2])) or "done",
        "send": lambda: board.send(int(words[1]), int(words[2])) or "done",
        "lose": lambda: board.lose(int(words[1])) or "done", "wait": lambda: board.wait(int(words[1])) or "done",
        "come": lambda: board.come(int(words[1]), int(words[2])) or "done",
        "undo": lambda: board.undo() or "done", "redo": lambda: board.redo() or "done",
        "read": lambda: str(board.read(some)), "miss": lambda: row(board.may_miss(some)),
        "tell": lambda: row(board.may_tell(some)), "answers": lambda: row(board.answers(some)),
        "grace": lambda: str(board.least_grace(some)).replace("None", "none"),
        "letters": lambda: ",".join(f"{number}:{place}" for number, place in board.letters()) or "-",
        "cells": lambda: " ".join(map(str, board.cells())), "tick": lambda: str(board.tick()),
        "moment": lambda: str(last(board.book())), "book": lambda: in_line(book_text(board.book())),
        "world": lambda: in_line(world_text(board.world())), "log": lambda: in_line(log_text(board.log()))}
    try:
        return calls[words[0]]()
    except (LookupError, ValueError) as error:
        return "refused " + type(error).__name__


def random_lines(rng, many, count):
    """Requests of steps and of questions."""
    hand, lines = Hand(many, 2), []
    for _ in range(count):
        if rng.random() < 0.5:
            word, args = random_call(rng, hand)
            if hand.refusal(word, args) is None:
                hand.do(word, args)
            if all(number >= 0 for number in sum((arg if isinstance(arg, tuple) else (arg,) for arg in args[:2]), ())):
                line = line_for(word, args)
                lines.append(line if is_request(line) else "wait 1")
        else:
            word = rng.choice(("undo", "undo", "redo", "letters", "cells", "tick", "moment", "book", "world", "log"))
            some = sorted(rng.sample(range(many + 1), rng.randrange(many)))
            lines.append(rng.choice((word, rng.choice(("miss", "tell", "answers", "grace", "read")) + " " + row(some))))
    return lines


class Desks(Case):
    def test_rows_of_requests_beside_their_calls(self):
        rng, told = random.Random(1600), {}
        for _ in range(150):
            many = rng.choice((2, 3, 3))
            lines = random_lines(rng, many, rng.choice((0, 3, 10, 30, 60)))
            board = Board(many, 2)
            wanted = [told_by_calls(board, line) for line in lines]
            self.assertEqual(replies(many, 2, "\n".join(lines)), wanted)
            other = Board(many, 2)
            for line, one in zip(lines, wanted):
                self.assertEqual(reply(other, line), one)
            self.assertTrue(other == board)
            for one in wanted:
                told[one] = told.get(one, 0) + 1
        for kind in ("NoPlace", "NoDeed", "NothingDone", "TooMany", "Unfit", "CanNot"):
            self.assertGreater(told.get("refused " + kind, 0), 0, kind)

    def test_refused_changes_nothing(self):
        board = Board(2, 1)
        reply(board, "put 0 0,1 0")
        kept = board.twin()
        for line, wanted in (("copy 0 0", "Unfit"), ("copy 0 2", "NoPlace"), ("come 5 0", "NoDeed"),
                             ("redo", "NothingDone"),
                             ("put 1 0,1 0", "Unfit"), ("put - 0 9", "Unfit"), ("read 0,5", "NoPlace"),
                             ("miss 2", "NoPlace"), ("tell 2", "NoPlace"), ("answers 2", "NoPlace"),
                             ("grace 2", "NoPlace"),
                             ("put 9 0 0", "NoPlace"), ("lose 7", "NoPlace")):
            self.assertEqual(reply(board, line), "refused " + wanted)
            self.assertTrue(board == kept)
        self.assertEqual([reply(board, "read 0") for _ in range(6)][4:], ["1", "refused TooMany"])
        self.assertEqual(reply(board, "come 0 1"), "refused CanNot")

    def test_word_for_word(self):
        lines = ("put 0 0,1 0+1", "send 0 1", "wait 3", "letters", "read -", "strike 1 1 1", "come 3 1", "cells",
                 "tick",
                 "moment", "book", "world", "log", "miss 0,1", "tell 0,1", "answers 1", "grace 1", "grace 0", "undo",
                 "redo",
                 "world")
        self.assertEqual(replies(2, 1, "\n".join(lines)), [
            "1", "done", "done", "-", "0", "2", "done", "1 2", "3", "4",
            "book 2 1; put 0 1 0,1 0+1; send 0 0 1; wait 3; strike 3 2 1 1", "took 0 -; none; none; took 1 1:4",
            "read 3 - 0", "-", "2", "2", "0", "none", "done", "done", "took 0 -; none; none; took 1 1:4"])


class Requests(Case):
    def test_is_request(self):
        for thing in REQUESTS + ("put 1,5 0,7 3,4+9", "wait " + "9" * 5000, "read 0," + "1" * 3000,
                                 "put - - 7,8+7,9+8,9",
                                 "come 0 999999999999999999999", "put 900 3 0,5+1"):
            self.assertIs(is_request(thing), True, thing)
        for thing in (None, 0, True, (), [], ["tick"], ("tick",), ("put", "0", "0", "0"), "", " ", "-", "tick ",
                      " tick",
                      "tick\n", "\ntick", "tick 0", "Tick", "ticks", "undo 1", "book 2 1", "put", "put 0 0",
                      "put 0 0 0 0",
                      "put 0  0 0", "put 0 0 0\n", "put 1,0 0 0", "put 0,0 0 0", "put 0 1,0 0", "put 0 0 0+0",
                      "put 0 0 1+0",
                      "put 0 0 0+0,1", "put 0 0 -+0", "put 0 0 0,1+0", "put 0 0 +", "put 0 0 0+", "put 00 0 0",
                      "put 0 01 0",
                      "put 0 0 01", "put , 0 0", "put 0, 0 0", "copy 0", "copy 0 0 0", "copy 0 -", "copy 0 0,1",
                      "copy -1 0",
                      "copy 00 1", "copy 0 01", "lose", "lose -", "lose 0,1", "lose 0 1", "wait", "wait 007", "wait -1",
                      "wait 1.", "wait +1", "wait 1e3", "come 0", "come 0 -", "come 0:1", "read", "read 1,0",
                      "read 0 1",
                      "miss", "tell -,0", "grace -1", "answers 0,,1", "write 0 0 0", "twin", "wait 1_0",
                      "wait " + "9" * 5000 + "x", "read " + "1" * 3000 + ",0", "wait 0" + "1" * 5000):
            self.assertIs(is_request(thing), False, thing)

    def test_other_signs_are_no_figures(self):
        for sign in ("\u00b2", "\u0663", "\uff11", "\u2460", "\u00bd", "\t", "\r", "\x0b"):
            for line in ("wait " + sign, "read " + sign, "wait 1" + sign, "tick" + sign, "put 0 0 " + sign):
                self.assertIs(is_request(line), False)

    def test_each_word_bent(self):
        rng = random.Random(1601)
        for _ in range(1200):
            line = rng.choice(REQUESTS)
            at = rng.randrange(len(line) + 1)
            bent = line[:at] + rng.choice(" 0,1-+:\nax") * rng.randrange(2) + line[at + rng.randrange(2):]
            board = Board(2, 1)
            if is_request(bent):
                self.assertEqual(reply(board, bent), told_by_calls(Board(2, 1), bent))
            else:
                self.refused(errors.BadLine, 0, reply, board, bent)
                self.assertTrue(board == Board(2, 1))

    def test_a_line_that_is_no_request_among_others(self):
        for text, number in (("\n", 0), (" ", 0), ("tick\n", 1), ("tick\n\ntick", 1), ("tick\ntick\nput 0", 2),
                             ("copy 0 0\nstrange\nother", 1), ("undo\nundo\nundo\ntick 5", 3)):
            self.refused(errors.BadLine, number, replies, 2, 1, text)
        self.assertEqual((replies(2, 1, ""), replies(2, 1, "tick")), ([], ["0"]))

    def test_lists_are_the_callers_own(self):
        first = replies(2, 1, "tick\nmoment")
        first.append("x")
        self.assertEqual(replies(text="tick\nmoment", life=1, many=2), ["0", "0"])
        self.assertEqual(reply(line="tick", board=Board(2, 1)), "0")
        self.assertIs(is_request(thing="tick"), True)

    def test_great_numbers(self):
        self.assertEqual(replies(2, GREAT, f"wait {GREAT}\nwait {'9' * 30}\ntick\nlose {'1' * 40}\ncome {'2' * 900} 0"),
                         ["done", "done", str(GREAT + int("9" * 30)), "refused NoPlace", "refused NoDeed"])


if __name__ == "__main__":
    unittest.main()
