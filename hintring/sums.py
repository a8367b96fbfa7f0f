"""Sums over ranges: how two places find where they are not alike without sending what they hold."""

from hintring.errors import Unfit
from hintring.plain import are_numbers, ascends, frozen, is_tuple

MOST_POINTS = 64
# A TREE that is deeper has more than 64 points, however few branches it has.
DEEPEST = 6


def is_tree(thing):
    """Whether thing is a TREE."""
    if not is_tuple(thing, 4) or not are_numbers(thing):
        return False
    branches, depth, size, base = thing
    if not 2 <= branches <= 4 or not 0 <= depth <= DEEPEST:
        return False
    return points_of(thing) <= MOST_POINTS and 1 <= base < size


def points_of(tree):
    """How many points the TREE has."""
    points = 1
    for _ in range(tree[1]):
        points = points * tree[0]
    return points


def is_rows(tree, thing):
    """Whether thing are ROWS of the TREE."""
    points = points_of(frozen(tree))
    if not isinstance(thing, tuple) or not all([is_tuple(pair, 2) and are_numbers(pair) for pair in thing]):
        return False
    if not all([0 <= point < points and version >= 1 for point, version in thing]):
        return False
    return ascends([pair[0] for pair in thing])


def sum_of(tree, rows, low, high):
    """The SUM of the pairs with points from low on and below high."""
    tree, rows = frozen(tree), frozen(rows)
    if not 0 <= low <= high <= points_of(tree):
        raise Unfit()
    return sum_in(tree, rows, (low, high))


def pairs_in(rows, span):
    """The pairs of these ROWS in a range (low, high)."""
    low, high = span
    return [(point, version) for point, version in rows if low <= point < high]


def sum_in(tree, rows, span):
    """The SUM of these ROWS in a range (low, high)."""
    _, _, size, base = tree
    count, number = 0, 0
    for point, version in pairs_in(rows, span):
        count, number = count + 1, (number * base + version * 64 + point) % size
    return count, number


def join_sums(tree, left, right):
    """The SUM of two ranges together, of those of each."""
    _, _, size, base = frozen(tree)
    count, number = left
    more, other = right
    return count + more, (number * power(base, more, size) + other) % size


def power(base, times, size):
    """The rest of base, so many times multiplied with itself, by size."""
    # The counts of joined SUMS may be great, so this goes by squares.
    rest, square = 1, base
    while times > 0:
        if times & 1 == 1:
            rest = rest * square % size
        square = square * square % size
        times = times >> 1
    return rest


def parts_of(tree, span):
    """The list of the parts of a range (low, high); none if it is one point."""
    low, high = span
    if high - low == 1:
        return []
    length = (high - low) // tree[0]
    return [(low + at * length, low + (at + 1) * length) for at in range(tree[0])]


def compare(tree, left, right):
    """The points whose own SUMS were compared and are unlike, and how many ranges were compared."""
    tree, left, right = frozen(tree), frozen(left), frozen(right)
    found, asked = [], 0
    spans = [(0, points_of(tree))]
    while len(spans) > 0:
        asked = asked + len(spans)
        unlike = [span for span in spans if sum_in(tree, left, span) != sum_in(tree, right, span)]
        found = found + [low for low, high in unlike if high - low == 1]
        spans = [part for span in unlike for part in parts_of(tree, span)]
    return tuple(sorted(found)), asked


def least_proof(tree, left, right):
    """How many points in which they are not alike, and largest ranges in which they are, there are."""
    tree, left, right = frozen(tree), frozen(left), frozen(right)
    count = 0
    spans = [(0, points_of(tree))]
    while len(spans) > 0:
        unlike = [span for span in spans if pairs_in(left, span) != pairs_in(right, span)]
        points = [span for span in unlike if span[1] - span[0] == 1]
        count = count + len(spans) - len(unlike) + len(points)
        spans = [part for span in unlike for part in parts_of(tree, span)]
    return count
