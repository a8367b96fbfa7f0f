"""Rings, point by point."""

import random
import unittest
from itertools import combinations

from hintring import errors
from hintring.rings import (changed, is_epochs, is_ring, least_handed, line_by_sites, line_of, moved,
                            owners_by_sites, owners_of, points_in, section_of, sections)
from tests import oracles
from tests.makers import random_ring

EMPTY, LONE = (5, ()), (5, ((3, 2),))


def random_rings(seed, count):
    rng = random.Random(seed)
    return [random_ring(rng) for _ in range(count)]


def random_epochs(seed, count):
    rng, found = random.Random(seed), []
    for _ in range(count):
        points = rng.randrange(1, 13)
        found.append(tuple(random_ring(rng, points) for _ in range(rng.randrange(1, 4))))
    return found


class Lines(unittest.TestCase):
    def test_lines_and_owners_point_by_point(self):
        for ring in random_rings(1, 150) + [EMPTY, LONE]:
            for point in range(ring[0]):
                line = oracles.line(ring, point)
                self.assertEqual(line_of(ring, point), line)
                for copies in (1, 2, 3, 9, 1000000000):
                    self.assertEqual(owners_of(ring, point, copies), line[:copies])

    def test_edges(self):
        self.assertEqual(line_of(EMPTY, 0), ())
        self.assertEqual(owners_of(EMPTY, 4, 3), ())
        self.assertEqual([line_of(LONE, point) for point in range(5)], [(2,)] * 5)
        self.assertEqual(line_of((4, ((0, 7), (3, 1))), 1), (1, 7))
        self.assertEqual(line_of((4, ((0, 7), (3, 1))), 3), (1, 7))
        self.assertEqual(line_of((4, ((0, 7), (3, 1))), 0), (7, 1))
        self.assertEqual(line_of((1, ((0, 4),)), 0), (4,))
        self.assertEqual(line_of((9, ((1, 4), (2, 4), (3, 0), (5, 4))), 2), (4, 0))

    def test_lines_by_sites(self):
        rng = random.Random(2)
        for ring in random_rings(3, 150):
            sites = tuple(rng.randrange(3) for _ in range(5))
            for point in range(ring[0]):
                line = oracles.line_with_sites(ring, sites, point)
                self.assertEqual(line_by_sites(ring, sites, point), line)
                for copies in (1, 2, 3, 9):
                    self.assertEqual(owners_by_sites(ring, sites, point, copies), line[:copies])

    def test_owners_by_sites_stand_at_as_many_sites_as_possible(self):
        rng = random.Random(4)
        for ring in random_rings(5, 60):
            sites = tuple(rng.randrange(3) for _ in range(5))
            for copies in (1, 2, 3):
                owners = owners_by_sites(ring, sites, 0, copies)
                most = max(len({sites[node] for node in some})
                           for some in combinations(line_of(ring, 0), len(owners)))
                self.assertEqual(len({sites[node] for node in owners}), most)

    def test_sites_that_are_no_small_numbers(self):
        ring = (6, ((0, 0), (1, 1), (2, 2)))
        self.assertEqual(line_by_sites(ring, (-4, -4, 1000000000), 0), (0, 2, 1))

    def test_refusals(self):
        ring = (6, ((0, 4), (1, 1), (2, 3)))
        for point in (-1, 6, 1000000000):
            for call in (lambda: line_of(ring, point), lambda: owners_of(ring, point, 1),
                         lambda: line_by_sites(ring, (), point), lambda: owners_by_sites(ring, (), point, 1),
                         lambda: section_of((ring,), point)):
                with self.assertRaises(errors.NoPoint) as seen:
                    call()
                self.assertEqual(seen.exception.number, point)
        for sites, node in (((), 1), ((5,), 1), ((5, 5), 3), ((5, 5, 5), 3), ((1, 2, 3, 4), 4)):
            for call in (lambda: line_by_sites(ring, sites, 0), lambda: owners_by_sites(ring, sites, 0, 1)):
                with self.assertRaises(errors.NoPlace) as seen:
                    call()
                self.assertEqual(seen.exception.number, node)
        self.assertEqual(line_by_sites(ring, (0, 1, 2, 3, 1), 0), (4, 3, 1))
        self.assertEqual(line_by_sites(EMPTY, (), 0), ())


class Sections(unittest.TestCase):
    def test_sections_point_by_point(self):
        for epochs in random_epochs(6, 150):
            points, rows = epochs[0][0], sections(epochs)
            by_point = [oracles.section_with(epochs, point) for point in range(points)]
            self.assertEqual([section_of(epochs, point) for point in range(points)], by_point)
            self.assertEqual(rows, tuple(sorted(set(by_point), key=lambda row: row[1])))
            for row in rows:
                self.assertEqual(points_in(points, row), by_point.count(row))

    def test_a_section_has_one_line_in_each_ring(self):
        for epochs in random_epochs(7, 80):
            for ring in epochs:
                lines = {}
                for point in range(ring[0]):
                    lines.setdefault(section_of(epochs, point), set()).add(line_of(ring, point))
                self.assertTrue(all(len(found) == 1 for found in lines.values()))

    def test_edges(self):
        self.assertEqual(sections((EMPTY,)), ((4, 4),))
        self.assertEqual(sections((EMPTY, EMPTY)), ((4, 4),))
        self.assertEqual(section_of((EMPTY,), 0), (4, 4))
        self.assertEqual(sections((LONE,)), ((3, 3),))
        self.assertEqual([section_of((LONE,), point) for point in (0, 3, 4)], [(3, 3)] * 3)
        self.assertEqual(points_in(5, (3, 3)), 5)
        self.assertEqual(points_in(5, (4, 4)), 5)
        self.assertEqual(points_in(5, (4, 0)), 1)
        self.assertEqual(points_in(5, (0, 4)), 4)
        self.assertEqual(sections((EMPTY, LONE, (5, ((0, 1),)))), ((3, 0), (0, 3)))
        self.assertEqual(sections(((1, ((0, 5),)),)), ((0, 0),))


class Changes(unittest.TestCase):
    def test_changed_against_a_plain_walk(self):
        rng = random.Random(8)
        for ring in random_rings(9, 300):
            nodes = rng.sample(range(6), rng.randrange(0, 4))
            changes = tuple((node, tuple(sorted(rng.sample(range(-1, ring[0] + 1), min(ring[0], rng.randrange(3))))))
                            for node in nodes)
            self.check(ring, changes)

    def check(self, ring, changes):
        points, spots = ring
        strange = [node for node, some in changes if not some and node not in [one for _, one in spots]]
        left = [(spot, node) for spot, node in spots if (node, ()) not in changes]
        come = [(spot, node) for node, some in changes for spot in some]
        at = [spot for spot, _ in left + come]
        if strange:
            with self.assertRaises(errors.NoPlace) as seen:
                changed(ring, changes)
            self.assertEqual(seen.exception.number, strange[0])
        elif len(set(at)) < len(at) or any(not 0 <= spot < points for spot in at):
            self.assertRaises(errors.Unfit, changed, ring, changes)
        else:
            self.assertEqual(changed(ring, changes), (points, tuple(sorted(left + come))))

    def test_order_of_going_and_coming(self):
        ring = (9, ((1, 0), (4, 1), (6, 0)))
        self.assertEqual(changed(ring, ()), ring)
        self.assertEqual(changed(ring, ((2, (1,)), (0, ()))), (9, ((1, 2), (4, 1))))
        self.assertEqual(changed(ring, ((1, (0, 8)),)), (9, ((0, 1), (1, 0), (4, 1), (6, 0), (8, 1))))
        self.assertEqual(changed(ring, ((0, ()), (1, ()))), (9, ()))
        for changes, node in ((((2, (1,)), (5, ()), (4, ())), 5), (((2, ()), (3, (99,))), 2),
                              (((3, (99,)), (2, ())), 2)):
            with self.assertRaises(errors.NoPlace) as seen:
                changed(ring, changes)
            self.assertEqual(seen.exception.number, node)
        for changes in (((2, (1,)),), ((2, (3,)), (3, (3,))), ((2, (9,)),), ((2, (-1,)),), ((0, (4,)),)):
            self.assertRaises(errors.Unfit, changed, ring, changes)

    def test_moved_and_least_handed_point_by_point(self):
        rng = random.Random(10)
        for ring in random_rings(11, 200):
            other = random_ring(rng, ring[0])
            for copies in (1, 2, 3):
                self.check_moved(ring, other, copies)

    def check_moved(self, ring, other, copies):
        owners = lambda one, point: oracles.line(one, point)[:copies]
        rows, handed = [], 0
        for point in range(ring[0]):
            old, new = owners(ring, point), owners(other, point)
            handed += len(set(new) - set(old))
            if set(old) != set(new):
                row = (oracles.section_with((ring, other), point), tuple(node for node in old if node not in new),
                       tuple(node for node in new if node not in old))
                if row not in rows:
                    rows.append(row)
        self.assertEqual(moved(ring, other, copies), tuple(sorted(rows, key=lambda row: row[0][1])))
        self.assertEqual(least_handed(ring, other, copies), handed)

    def test_moved_edges(self):
        ring = (9, ((1, 0), (4, 1)))
        self.assertEqual(moved(ring, ring, 2), ())
        self.assertEqual(moved(ring, (9, ((1, 1), (4, 0))), 2), ())
        self.assertEqual(moved(EMPTY, EMPTY, 1), ())
        self.assertEqual(moved(EMPTY, LONE, 1), (((3, 3), (), (2,)),))
        self.assertEqual(moved(LONE, EMPTY, 2), (((3, 3), (2,), ()),))
        self.assertEqual((least_handed(EMPTY, LONE, 2), least_handed(LONE, EMPTY, 2)), (5, 0))
        for action in (moved, least_handed):
            self.assertRaises(errors.Unfit, action, ring, (8, ring[1]), 1)
            self.assertRaises(errors.Unfit, action, EMPTY, (6, ()), 1)

    def test_outs_and_ins_stand_in_the_order_of_their_lines(self):
        ring, other = (9, ((1, 5), (2, 3))), (9, ((1, 4), (2, 0)))
        self.assertEqual(moved(ring, other, 2), (((2, 1), (5, 3), (4, 0)), ((1, 2), (3, 5), (0, 4))))

    def test_lines_without_a_node(self):
        for ring in random_rings(12, 100):
            for node in {one for _, one in ring[1]}:
                left = changed(ring, ((node, ()),))
                for point in range(ring[0]):
                    without = tuple(one for one in line_of(ring, point) if one != node)
                    self.assertEqual(line_of(left, point), without)
                    for copies in (1, 2):
                        old, new = owners_of(left, point, copies), owners_of(ring, point, copies)
                        if set(old) != set(new):
                            gone = [one for one in old if one not in new]
                            self.assertEqual(set(new) - set(old), {node})
                            self.assertEqual(gone, list(old[-1:]) if len(old) == copies else [])

    def test_owners_by_sites_without_a_node(self):
        rng = random.Random(13)
        for ring in random_rings(14, 100):
            sites = tuple(rng.randrange(3) for _ in range(5))
            for node in {one for _, one in ring[1]}:
                left = changed(ring, ((node, ()),))
                for point in range(ring[0]):
                    for copies in (1, 2, 3):
                        old = set(owners_by_sites(left, sites, point, copies))
                        new = set(owners_by_sites(ring, sites, point, copies))
                        self.assertTrue(new - old in (set(), {node}))
                        self.assertEqual(len(old - new), 1 if new != old and len(old) == copies else 0)


class Things(unittest.TestCase):
    def test_is_ring(self):
        for thing in (EMPTY, LONE, (1, ()), (1, ((0, 0),)), (10 ** 30, ((10 ** 29, 10 ** 40),)),
                      (9, ((0, 3), (8, 3))), (5000, tuple((point, 1) for point in range(5000)))):
            self.assertIs(is_ring(thing), True)
        for thing in (0, 1, None, True, "", "ring", (), (5,), (5, (), ()), (0, ()), (-1, ()), (True, ()),
                      ("5", ()), (None, ()), (5, None), (5, 3), (5, "ab"), (5, ((0,),)), (5, ((0, 1, 2),)),
                      (5, ((5, 1),)), (5, ((-1, 1),)), (5, ((0, -1),)), (5, ((True, 1),)), (5, ((0, True),)),
                      (5, ((0, False),)), (5, ((0, None),)), (5, (("0", 1),)), (5, ((2, 1), (1, 1))),
                      (5, ((1, 1), (1, 2))), (5, (1, 2)), (5, ([0, 1],)), (5, [(0, 1)]), [5, ()], (5, []),
                      (5, (((((((((((0,),),),),),),),),),),)), (5, ((0, (1,)),)), (5, ((0, 1), None))):
            self.assertIs(is_ring(thing), False, thing)

    def test_is_epochs(self):
        for thing in ((EMPTY,), (EMPTY, LONE, EMPTY), tuple([LONE] * 500)):
            self.assertIs(is_epochs(thing), True)
        for thing in ((), EMPTY, [EMPTY], (EMPTY, (6, ())), (EMPTY, (0, ())), (EMPTY, None), None, 3, "",
                      ([5, ()],), ((5, ()), [5, ()]), (((5, ()),),), (LONE, (5, ((3, True),)))):
            self.assertIs(is_epochs(thing), False, thing)


if __name__ == "__main__":
    unittest.main()
