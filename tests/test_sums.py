"""Sums over ranges, pair by pair and range by range."""

import random
import unittest

from hintring import errors
from hintring.sums import compare, is_rows, is_tree, join_sums, least_proof, sum_of
from tests.cases import Case

TREE = (2, 2, 97, 10)
ONE, OTHER = ((0, 1), (2, 4), (3, 2)), ((0, 1), (2, 5), (3, 2))
GREAT = 10 ** 9
SHAPES = ((2, 0), (2, 1), (2, 2), (2, 3), (2, 4), (2, 6), (3, 0), (3, 1), (3, 2), (3, 3), (4, 0), (4, 1), (4, 2),
          (4, 3))


def points_of(tree):
    return tree[0] ** tree[1]


def pairs_between(rows, low, high):
    return [pair for pair in rows if pair[0] in range(low, high)]


def sum_by_pairs(tree, rows, low, high):
    """The SUM of a range, one pair behind another."""
    count = number = 0
    for point, version in pairs_between(rows, low, high):
        count, number = count + 1, (number * tree[3] + version * 64 + point) % tree[2]
    return count, number


def ranges_below(tree, low, high):
    """All ranges from this one down, as a tree: (low, high, parts)."""
    if high - low == 1:
        return low, high, []
    step = (high - low) // tree[0]
    return low, high, [ranges_below(tree, at, at + step) for at in range(low, high, step)]


def compared(tree, left, right, node):
    """(found, asked) below a range that is compared."""
    low, high, parts = node
    if sum_by_pairs(tree, left, low, high) == sum_by_pairs(tree, right, low, high):
        return [], 1
    if not parts:
        return [low], 1
    rows = [compared(tree, left, right, part) for part in parts]
    return sum((found for found, _ in rows), []), 1 + sum(asked for _, asked in rows)


def are_alike(left, right, low, high):
    return pairs_between(left, low, high) == pairs_between(right, low, high)


def proof(left, right, node):
    """How many points and largest ranges settle in what they are alike."""
    low, high, parts = node
    if are_alike(left, right, low, high) or not parts:
        return 1
    return sum(proof(left, right, part) for part in parts)


def all_ranges(node):
    return [node] + [one for part in node[2] for one in all_ranges(part)]


def random_tree(rng):
    size = rng.choice((2, 3, 5, 97, 1009, GREAT))
    return rng.choice(SHAPES) + (size, rng.randrange(1, size))


def random_rows(rng, tree, full=0.5):
    return tuple((point, rng.randrange(1, 5)) for point in range(points_of(tree)) if rng.random() < full)


def bent(rng, tree, rows):
    """ROWS that are unlike these at few points, or at none."""
    held = dict(rows)
    for _ in range(rng.choice((0, 1, 1, 2, 5))):
        held[rng.randrange(points_of(tree))] = rng.choice((None, 1, 2, 64, 65))
    return tuple((point, held[point]) for point in sorted(held) if held[point])


def random_cases(seed, count):
    rng, found = random.Random(seed), []
    for _ in range(count):
        tree = random_tree(rng)
        rows = random_rows(rng, tree, rng.random())
        found.append((tree, rows, bent(rng, tree, rows)))
    return found


class Sums(Case):
    CASES = random_cases(1000, 400)

    def test_sum_of(self):
        rng = random.Random(1001)
        for tree, rows, _ in self.CASES:
            for _ in range(5):
                low = rng.randrange(points_of(tree) + 1)
                high = rng.randrange(low, points_of(tree) + 1)
                self.assertEqual(sum_of(tree, rows, low, high), sum_by_pairs(tree, rows, low, high))
                self.assertEqual(sum_of(tree, rows, low, low), (0, 0))

    def test_join_sums_of_any_grouping(self):
        rng = random.Random(1002)
        for tree, rows, _ in self.CASES:
            points = points_of(tree)
            cuts = [0] + sorted(rng.randrange(points + 1) for _ in range(4)) + [points]
            parts = [sum_of(tree, rows, low, high) for low, high in zip(cuts, cuts[1:])]
            while len(parts) > 1:
                at = rng.randrange(len(parts) - 1)
                parts[at:at + 2] = [join_sums(tree, parts[at], parts[at + 1])]
            self.assertEqual(parts[0], sum_of(tree, rows, 0, points))

    def test_join_sums_of_great_counts(self):
        rng = random.Random(1003)
        for _ in range(200):
            tree = random_tree(rng)
            count, more = rng.randrange(GREAT), rng.choice((0, 1, rng.randrange(70), rng.randrange(GREAT)))
            one, other = rng.randrange(tree[2]), rng.randrange(tree[2])
            self.assertEqual(join_sums(tree, (count, one), (more, other)),
                             (count + more, (one * pow(tree[3], more, tree[2]) + other) % tree[2]))

    def test_compare_range_by_range(self):
        seen = set()
        for tree, left, right in self.CASES:
            node = ranges_below(tree, 0, points_of(tree))
            found, asked = compared(tree, left, right, node)
            self.assertEqual(compare(tree, left, right), (tuple(found), asked))
            self.assertEqual(compare(tree, right, left), (tuple(found), asked))
            seen.add(len(found))
        self.assertTrue({0, 1, 2} <= seen)

    def test_least_proof(self):
        for tree, left, right in self.CASES:
            node = ranges_below(tree, 0, points_of(tree))
            self.assertEqual(least_proof(tree, left, right), proof(left, right, node))
            self.assertEqual(least_proof(tree, left, left), 1)

    def test_what_is_found(self):
        fooled = 0
        for tree, left, right in self.CASES:
            rows = all_ranges(ranges_below(tree, 0, points_of(tree)))
            unlike = [(low, high) for low, high, _ in rows
                      if sum_by_pairs(tree, left, low, high) != sum_by_pairs(tree, right, low, high)]
            found, asked = compare(tree, left, right)
            apart = [low for low, high, parts in rows if not parts and not are_alike(left, right, low, high)]
            for point in range(points_of(tree)):
                around = [(low, high) for low, high, _ in rows if low <= point < high]
                self.assertEqual(point in found, all(span in unlike for span in around))
                self.assertTrue(point not in found or point in apart)
            spoke = [(low, high) for low, high, _ in rows if are_alike(left, right, low, high) or (low, high) in unlike]
            if len(spoke) == len(rows):
                self.assertEqual(list(found), apart)
                self.assertGreaterEqual(asked, least_proof(tree, left, right))
            elif list(found) != apart:
                fooled += 1
        self.assertGreater(fooled, 10)


class Edges(Case):
    def test_one_point(self):
        tree = (3, 0, 7, 2)
        self.assertEqual((sum_of(tree, ((0, 1),), 0, 1), sum_of(tree, (), 0, 1)), ((1, 1), (0, 0)))
        self.assertEqual((compare(tree, ((0, 1),), ()), least_proof(tree, ((0, 1),), ())), (((0,), 1), 1))
        self.assertEqual((compare(tree, (), ()), least_proof(tree, (), ())), (((), 1), 1))

    def test_no_rows_and_low_equal_to_high(self):
        self.assertEqual([sum_of(TREE, (), low, 4) for low in range(5)], [(0, 0)] * 5)
        self.assertEqual([sum_of(TREE, ONE, at, at) for at in range(5)], [(0, 0)] * 5)
        self.assertEqual((compare(TREE, (), ()), compare(TREE, ONE, ())), (((), 1), ((0, 2, 3), 7)))
        self.assertEqual((least_proof(TREE, ONE, ()), least_proof(TREE, (), ())), (4, 1))
        self.assertEqual(join_sums(TREE, (0, 0), (0, 0)), (0, 0))
        self.assertEqual((join_sums(TREE, (2, 5), (0, 0)), join_sums(TREE, (0, 0), (2, 5))), ((2, 5), (2, 5)))

    def test_size_2(self):
        tree = (2, 1, 2, 1)
        self.assertEqual((compare(tree, ((0, 1),), ((0, 2),)), least_proof(tree, ((0, 1),), ((0, 2),))), (((), 1), 2))
        self.assertEqual(compare(tree, ((0, 1),), ((1, 1),)), ((0, 1), 3))

    def test_refusals(self):
        for low, high in ((3, 2), (-1, 2), (0, 5), (5, 5), (-2, -1), (4, 3), (0, GREAT)):
            self.assertRaises(errors.Unfit, sum_of, TREE, ONE, low, high)
        self.assertEqual(sum_of(TREE, ONE, 4, 4), (0, 0))

    def test_at_the_bounds(self):
        tree = (4, 3, GREAT, GREAT - 7)
        left = tuple((point, GREAT) for point in range(64))
        right = tuple((point, GREAT - 1) for point in range(64))
        self.assertEqual(sum_of(tree, left, 0, 64), sum_by_pairs(tree, left, 0, 64))
        self.assertEqual(compare(tree, left, right), (tuple(range(64)), 85))
        self.assertEqual(least_proof(tree, left, right), 64)


class Things(Case):
    def test_is_tree(self):
        for thing in (TREE, (2, 0, 2, 1), (4, 3, 2, 1), (3, 3, 10 ** 30, 10 ** 29), (2, 6, 97, 96), (4, 0, 97, 96)):
            self.assertIs(is_tree(thing), True, thing)
        for thing in (None, 0, True, "", "2297", (), [2, 2, 97, 10], (2, 2, 97), (2, 2, 97, 10, 1), (True, 2, 97, 10),
                      (2, True, 97, 10), (2, 2, True, 10), (2, 2, 97, True), (1, 2, 97, 10), (0, 2, 97, 10),
                      (5, 1, 97, 10), (-2, 2, 97, 10), (2, -1, 97, 10), (2, 7, 97, 10), (3, 4, 97, 10),
                      (4, 4, 97, 10), (2, 10 ** 30, 97, 10), (10 ** 30, 0, 97, 10), (2, 2, 1, 1), (2, 2, 0, 0),
                      (2, 2, 2, 2), (2, 2, 97, 97), (2, 2, 97, 0), (2, 2, 97, -1), (2, 2, -97, 1), ("2", 2, 97, 10),
                      (2, None, 97, 10), (2, 2, (97,), 10), (2, 2, [97], 10)):
            self.assertIs(is_tree(thing), False, thing)

    def test_is_rows(self):
        for thing in (ONE, (), ((0, 1),), ((3, 10 ** 30),), ((0, 1), (1, 1), (2, 1), (3, 1))):
            self.assertIs(is_rows(TREE, thing), True, thing)
        self.assertIs(is_rows([2, 2, 97, 10], ONE), True)
        for thing in (None, 0, True, "", "ab", [], [(0, 1)], ([0, 1],), ((4, 1),), ((-1, 1),), ((0, 0),), ((0, -1),),
                      ((1, 1), (0, 1)), ((0, 1), (0, 2)), ((0, 1), (0, 1)), ((False, 1),), ((0, True),), ((0,),),
                      ((0, 1, 1),), (0, 1), (("0", 1),), ((0, "1"),), ((0, None),), (None,), ((10 ** 30, 1),),
                      (((0,), 1),), ((0, 1), None)):
            self.assertIs(is_rows(TREE, thing), False, thing)
        self.assertIs(is_rows((2, 0, 97, 10), ((0, 1),)), True)
        self.assertIs(is_rows((2, 0, 97, 10), ((1, 1),)), False)


if __name__ == "__main__":
    unittest.main()
