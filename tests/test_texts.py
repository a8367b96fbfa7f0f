"""Texts: written and read back, and with one line bent."""

import random
import unittest

from hintring import errors
from hintring.books import is_book
from hintring.logs import is_log
from hintring.rings import is_ring
from hintring.texts import (book_text, log_text, read_book, read_log, read_ring, read_world, ring_text, world_text)
from hintring.worlds import is_world
from tests.cases import Case
from tests.makers import random_book, random_ring, random_world, subsets

BOOK = (3, 2, (("put", 0, 1, (0, 1, 2), ((0, 1), (0, 2), (1, 2))), ("send", 4, 0, 2), ("lose", 5, 0)))
WORLD = (((0, 1), ((2, 1), (2, 2))), (2, 3), ())
LOG = ((2, (0, 1), 5), (2, (), 0))
RING = (8, ((0, 1), (5, 0)))
HUGE = int("7" * 900)


def random_log(rng, book):
    moments = sorted(rng.randrange(len(book[2]) + 1) for _ in range(rng.randrange(4)))
    return tuple((moment, rng.choice(subsets(range(book[0]))), rng.randrange(9)) for moment in moments)


class Written(Case):
    def test_read_back(self):
        rng = random.Random(1400)
        for _ in range(400):
            book = random_book(rng, rng.randrange(1, 5), rng.randrange(0, 8))
            self.assertEqual(read_book(book_text(book)), book)
            world = random_world(rng, book)
            self.assertEqual(read_world(world_text(world)), world)
            log, ring = random_log(rng, book), random_ring(rng)
            self.assertEqual(read_log(log_text(log)), log)
            self.assertEqual(read_ring(ring_text(ring)), ring)

    def test_with_and_without_the_last_break(self):
        rng = random.Random(1401)
        for _ in range(60):
            book = random_book(rng, 3, 4)
            for write, read, value in ((book_text, read_book, book), (world_text, read_world, random_world(rng, book)),
                                       (log_text, read_log, random_log(rng, book)),
                                       (ring_text, read_ring, random_ring(rng))):
                text = write(value)
                self.assertTrue(text == "" or text[-1] == "\n")
                self.assertEqual(read(text[:-1]), value)
                self.assertEqual(write(read(text)), text)
                self.assertRaises(errors.BadLine, read, text + "\n")

    def test_word_for_word(self):
        self.assertEqual(book_text(BOOK), "book 3 2\nput 0 1 0,1,2 0,1+0,2+1,2\nsend 4 0 2\nlose 5 0\n")
        self.assertEqual(book_text((2, 0, (("strike", 1, 2, (), ((),)), ("copy", 1, 0, 1), ("wait", 7)))),
                         "book 2 0\nstrike 1 2 - -\ncopy 1 0 1\nwait 7\n")
        self.assertEqual(world_text(WORLD), "took 0,1 2:1,2:2\ncame 2,3\nnone\n")
        self.assertEqual((world_text(()), world_text(((),)), world_text((((), ()),))), ("", "none\n", "took - -\n"))
        self.assertEqual((log_text(LOG), log_text(())), ("read 2 0,1 5\nread 2 - 0\n", ""))
        self.assertEqual((ring_text(RING), ring_text((8, ()))), ("ring 8\nspot 0 1\nspot 5 0\n", "ring 8\n"))

    def test_without_a_look_at_what_it_means(self):
        self.assertEqual(book_text((0, 0, (("lose", 5, 9), ("put", 1, 0, (4, 2), ((2, 7), (2,)))))),
                         "book 0 0\nlose 5 9\nput 1 0 4,2 2,7+2\n")
        self.assertEqual(world_text((((3, 1), ((5, 5), (5, 5))), (4, 4))), "took 3,1 5:5,5:5\ncame 4,4\n")
        self.assertEqual((log_text(((5, (2, 0), 1), (1, (), 0))), ring_text((0, ((9, 1), (3, 0))))),
                         ("read 5 2,0 1\nread 1 - 0\n", "ring 0\nspot 9 1\nspot 3 0\n"))

    def test_great_numbers(self):
        book = (HUGE, HUGE, (("put", HUGE, HUGE, (1, HUGE - 1), ((1,), (HUGE - 1,))), ("send", HUGE, 0, HUGE - 1)))
        self.assertEqual(read_book(book_text(book)), book)
        world = (((5, HUGE), ((0, HUGE), (HUGE, 0))), (HUGE,))
        self.assertEqual(read_world(world_text(world)), world)
        self.assertEqual(read_log(log_text(((HUGE, (HUGE,), HUGE),))), ((HUGE, (HUGE,), HUGE),))
        self.assertEqual(read_ring(ring_text((HUGE, ((HUGE - 1, HUGE),)))), (HUGE, ((HUGE - 1, HUGE),)))
        for figures in range(1, 60):
            number = int("9" * figures)
            self.assertEqual(read_log(f"read {number} - {number + 1}"), ((number, (), number + 1),))
        self.assertEqual(read_log("read " + "8" * 1000 + " - 0")[0][0], int("8" * 1000))

    def test_lists_for_tuples(self):
        self.assertEqual(book_text([3, 2, [["put", 0, 1, [0, 1], [[0], [1]]], ["wait", 3]]]),
                         "book 3 2\nput 0 1 0,1 0+1\nwait 3\n")
        self.assertEqual(world_text([[[0], [[1, 2]]], [3], []]), "took 0 1:2\ncame 3\nnone\n")
        self.assertEqual(log_text([[1, [0], 2]]), "read 1 0 2\n")
        self.assertEqual(ring_text([8, [[0, 1]]]), "ring 8\nspot 0 1\n")


class Bent(Case):
    def bad(self, read, rows):
        """Each text is refused at this line; lines ahead and behind do not matter."""
        for text, number in rows:
            self.refused(errors.BadLine, number, read, text)

    def test_no_lines_and_empty_lines(self):
        self.bad(read_book, (("", 0), ("\n", 0), ("\nbook 2 0", 0), ("book 2 0\n\n", 1), ("book 2 0\n\nwait 1", 1)))
        self.bad(read_ring, (("", 0), ("\n", 0), ("ring 2\n\n", 1), ("ring 2\n\nspot 0 0\n", 1)))
        self.bad(read_world, (("\n", 0), ("none\n\n", 1), ("\nnone", 0)))
        self.bad(read_log, (("\n", 0), ("read 1 - 0\n\n", 1), ("\nread 1 - 0", 0)))
        self.assertEqual((read_world(""), read_log("")), ((), ()))
        self.assertEqual((read_book("book 1 0"), read_ring("ring 1")), ((1, 0, ()), (1, ())))

    def test_first_lines(self):
        for line in ("book", "book 2", "book 2 0 0", "book 0 0", "book 02 0", "book 2 00", "book 2 -", "book 2 -1",
                     "book +2 0", "book 2  0", " book 2 0", "book 2 0 ", "Book 2 0", "ring 2 0", "wait 0", "book x 0",
                     "book 2 0,1", "book 2, 0", "book 2 1.", "book 1_0 0"):
            self.refused(errors.BadLine, 0, read_book, line)
        for line in ("ring", "ring 0", "ring 08", "ring 8 1", "ring -1", "ring x", " ring 8", "ring 8 ", "ring  8",
                     "Ring 8", "book 8", "spot 0 1"):
            self.refused(errors.BadLine, 0, read_ring, line)

    def test_lines_of_books(self):
        for line in ("put 4 6 0,1 0", "strike 9 7 - -", "copy 4 0 2", "send 4 2 0", "lose 4 1", "wait 4"):
            self.assertEqual(len(read_book("book 3 1\nput 4 5 0 0\n" + line)[2]), 2)
        for line in ("put 4 6 0,1", "put 4 6 0,1 0 0", "put 4 5 0,1 0", "put 4 4 0,1 0", "put 3 6 0,1 0", "put 4 0 - -",
                     "put 4 6 1,0 0", "put 4 6 0,0 0", "put 4 6 0,3 0", "put 4 6 0,1 2", "put 4 6 0,1 1+0",
                     "put 4 6 0,1 0+0",
                     "put 4 6 0,1 0+0,1", "put 4 6 0,1 0,1+0", "put 4 6 0,1 -+0", "put 4 6 0,1 1,0", "put 4 6 0,1, 0",
                     "put 4 6 ,0 0", "put 4 6 0 0+", "put 4 6  -", "put 4 06 0 0", "put 4 6 00 0", "put 4 6 0 -+-",
                     "strike 4 5 0 0", "strike 3 9 0 0", "copy 4 0 0", "copy 4 0 3", "copy 4 3 0", "copy 4 0",
                     "copy 4 0 1 2",
                     "copy 3 0 1", "send 4 1 1", "send 4 0 9", "lose 4 3", "lose 4", "lose 4 0 0", "lose 3 0", "wait 3",
                     "wait", "wait 4 4", "wait 04", "wait -4", "wait 4 ", " wait 4", "wait  4", "say 4 0", "book 3 1",
                     "read 4 0 0", "none", "Put 4 6 0 0", "lose 4 -", "lose 4 0,1", "copy 4 0:1"):
            self.refused(errors.BadLine, 2, read_book, "book 3 1\nput 4 5 0 0\n" + line)
            self.refused(errors.BadLine, 2, read_book, "book 3 1\nput 4 5 0 0\n" + line + "\nstrange\n\n")

    def test_lines_of_worlds(self):
        for line in ("none", "took - -", "took 0,5,9 3:1,3:2,4:0", "came 0", "came 3,9"):
            self.assertEqual(len(read_world("none\n" + line)), 2)
        for line in ("None", "none ", " none", "none 0", "took", "took -", "took - - -", "took 1,0 -", "took 0,0 -",
                     "took 0 1:1,1:0", "took 0 1:1,1:1", "took 0 2:0,1:0", "took 0 1", "took 0 1:", "took 0 :1",
                     "took 0 1:2:3", "took 0 1:2,", "took 0 01:2", "took 0 1:2,-", "took  - -", "took x -", "took - x",
                     "came", "came -", "came 3,3", "came 4,3", "came 3 4", "came 03", "came 3,", "came x", "came 3:4",
                     "read 0 - 0"):
            self.refused(errors.BadLine, 1, read_world, "none\n" + line)
            self.refused(errors.BadLine, 1, read_world, "none\n" + line + "\nnone\nstrange")

    def test_lines_of_logs(self):
        for line in ("read 3 - 0", "read 3 0,4 9", "read 900 7 0"):
            self.assertEqual(len(read_log("read 3 0 5\n" + line)), 2)
        for line in ("read 2 - 0", "read 3 -", "read 3 - 0 0", "read 3 - -", "read 3 4,0 9", "read 3 0,0 9",
                     "read 3 0 09",
                     "read 03 0 9", "read - 0 9", "read 3  9", "read 3 0 9 ", "Read 3 0 9", "none", "read",
                     "read 3 0+1 9",
                     "read 3 0 1,2", "read 3 x 0", "read x 0 0", "read 3 0 x"):
            self.refused(errors.BadLine, 1, read_log, "read 3 0 5\n" + line)

    def test_lines_of_rings(self):
        for line in ("spot 3 0", "spot 7 900"):
            self.assertEqual(len(read_ring("ring 8\nspot 2 1\n" + line)[1]), 2)
        for line in ("spot 2 0", "spot 1 0", "spot 8 0", "spot 3", "spot 3 0 0", "spot 3 -", "spot - 3", "spot 03 0",
                     "spot 3 00", "spot  3 0", "spot 3 0 ", " spot 3 0", "Spot 3 0", "ring 8", "spot", "spot x 0",
                     "spot 3 x"):
            self.refused(errors.BadLine, 2, read_ring, "ring 8\nspot 2 1\n" + line)

    def test_the_first_bad_line_is_told(self):
        self.bad(read_book, (("book 0 0\nput", 0), ("book 2 0\nwait 3\nwait 2\nwait 1", 2),
                             ("book 2 0\nput 0 2 0 0\nwait 0\nput 0 2 0 0\nx", 3)))
        self.bad(read_world, (("none\ncame -\ntook", 1),))
        self.bad(read_log, (("read 5 - 0\nread 4 - 0\nx", 1), ("read 5 - 0\nread 5 - 0\nx", 2)))
        self.bad(read_ring, (("ring 8\nspot 1 0\nspot 1 0\nx", 2),))

    def test_one_sign_bent(self):
        rng, refused = random.Random(1402), 0
        signs = "0123456789,+:- \nabcdefghijklmnoprstuwx~"
        for _ in range(1500):
            book = random_book(rng, 3, 3)
            value, write, read, check = rng.choice((
                (book, book_text, read_book, is_book), (random_ring(rng), ring_text, read_ring, is_ring),
                (random_world(rng, book), world_text, read_world, None),
                (random_log(rng, book), log_text, read_log, None)))
            text = write(value)
            at = rng.randrange(len(text) + 1)
            bent = text[:at] + rng.choice(signs) * rng.randrange(0, 2) + text[at + rng.randrange(0, 2):]
            try:
                told = read(bent)
            except errors.BadLine as error:
                refused += 1
                self.assertTrue(0 <= error.number <= bent.count("\n"))
                continue
            self.assertIn(bent, (write(told), write(told)[:-1]))
            if check:
                self.assertIs(check(told), True)
        self.assertGreater(refused, 400)

    def test_what_is_read_is_shaped(self):
        rng = random.Random(1403)
        for _ in range(100):
            book = random_book(rng, 3, 4)
            self.assertIs(is_world(book, read_world(world_text(random_world(rng, book)))), True)
            self.assertIs(is_log(book, read_log(log_text(random_log(rng, book)))), True)


if __name__ == "__main__":
    unittest.main()
