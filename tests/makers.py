"""Small RINGS, FAMILIES and BOOKS for tests: the same ones each time, without the package."""

import random
from itertools import combinations, product


def lots_below(many):
    """All LOTS of PLACES below many, ascending."""
    return subsets(range(many))


def subsets(items):
    """All ascending tuples of these ascending items, ascending."""
    items = tuple(items)
    return sorted(some for size in range(len(items) + 1) for some in combinations(items, size))


def is_chainless(lots):
    """Whether no one of these unlike LOTS lies in another one."""
    return not any(set(one) < set(other) for one in lots for other in lots)


def all_families(homes):
    """All FAMILIES of PLACES of homes (for at most four homes)."""
    found = []

    def grow(lots, rest):
        if lots:
            found.append(tuple(lots))
        for at, lot in enumerate(rest):
            if is_chainless(lots + [lot]):
                grow(lots + [lot], rest[at + 1:])

    grow([], subsets(homes))
    return sorted(found)


FAMILIES_OF = {homes: all_families(homes) for homes in subsets(range(8)) if len(homes) <= 3}


def random_ring(rng, points=None):
    """A RING with few points."""
    points = points or rng.randrange(1, 13)
    spots = sorted(rng.sample(range(points), rng.randrange(0, min(points, 7) + 1)))
    return points, tuple((spot, rng.randrange(0, 5)) for spot in spots)


def random_family(rng, homes):
    """A FAMILY of PLACES of homes."""
    if len(homes) <= 3:
        return rng.choice(FAMILIES_OF[homes])
    lots = [tuple(sorted(rng.sample(homes, rng.randrange(1, len(homes) + 1))))
            for _ in range(rng.randrange(1, 5))]
    return tuple(sorted({lot for lot in lots if not any(set(one) < set(lot) for one in lots)}))


def random_deed(rng, many, tick, version, kinds):
    """A DEED of one of these kinds."""
    kind = rng.choice(kinds)
    if kind in ("copy", "send") and many < 2:
        kind = "lose"
    if kind in ("put", "strike"):
        homes = tuple(sorted(rng.sample(range(many), rng.randrange(0 if rng.random() < 0.1 else 1, many + 1))))
        return kind, tick, version, homes, random_family(rng, homes)
    if kind in ("copy", "send"):
        return (kind, tick) + tuple(rng.sample(range(many), 2))
    if kind == "lose":
        return kind, tick, rng.randrange(many)
    return kind, tick


KINDS = ("put", "put", "put", "strike", "copy", "copy", "send", "send", "lose", "lose", "wait")


def random_book(rng, many, deeds, life=None, kinds=KINDS):
    """A BOOK of so many PLACES and DEEDS."""
    tick, version, rows = rng.randrange(0, 2), rng.randrange(0, 3), []
    for _ in range(deeds):
        tick += rng.choice((0, 0, 1, 2))
        version += rng.choice((1, 1, 2))
        rows.append(random_deed(rng, many, tick, version, kinds))
    return many, rng.randrange(0, 4) if life is None else life, tuple(rows)


def small_books(seed, count, most_worlds, many=(1, 2, 3, 3), deeds=(0, 1, 2, 3, 4, 5, 6), kinds=KINDS,
                least_worlds=1):
    """So many unlike BOOKS with that many WORLDS each."""
    rng, found = random.Random(seed), []
    while len(found) < count:
        book = random_book(rng, rng.choice(many), rng.choice(deeds), kinds=kinds)
        if book not in found and least_worlds <= world_count(book) <= most_worlds:
            found.append(book)
    return found


def can_come(book, number, moment):
    """Whether a letter of this DEED can come at this MOMENT, as [3] says it."""
    deeds = book[2]
    return moment > number and moment <= len(deeds) and deeds[moment - 1][1] <= deeds[number][1] + book[1]


def when(book, number):
    """The MOMENTS at which a letter of this DEED can come."""
    return [moment for moment in range(len(book[2]) + 1) if can_come(book, number, moment)]


def all_takers(deed):
    """The LOTS that may have taken this write."""
    return [some for some in subsets(deed[3]) if any(set(lot) <= set(some) for lot in deed[4])]


def letter_slots(book, number):
    """The pairs (place, moment) at which a letter of this DEED may come."""
    deed = book[2][number]
    if deed[0] in ("put", "strike"):
        return [(place, moment) for place in deed[3] for moment in when(book, number)]
    if deed[0] == "send":
        return [(deed[3], moment) for moment in when(book, number)]
    return []


def world_count(book):
    """How many WORLDS a BOOK has."""
    count = 1
    for number, deed in enumerate(book[2]):
        count *= 2 ** len(letter_slots(book, number))
        if deed[0] in ("put", "strike"):
            count *= len(all_takers(deed))
    return count


def all_parts(book, number):
    """All that a WORLD may have for this DEED."""
    deed = book[2][number]
    comings = subsets(letter_slots(book, number))
    if deed[0] in ("put", "strike"):
        return list(product(all_takers(deed), comings))
    if deed[0] == "send":
        return [tuple(moment for _, moment in some) for some in comings]
    return [()]


def all_worlds(book):
    """All WORLDS of a BOOK."""
    return product(*[all_parts(book, number) for number in range(len(book[2]))])


def random_world(rng, book, quiet=0.5):
    """One WORLD of a BOOK; its letters come now and then."""
    world = []
    for number, deed in enumerate(book[2]):
        slots = [slot for slot in letter_slots(book, number) if rng.random() > quiet]
        if deed[0] in ("put", "strike"):
            takers = sorted(set(rng.choice(deed[4])) | {home for home in deed[3] if rng.random() < 0.2})
            world.append((tuple(takers), tuple(sorted(slots))))
        else:
            world.append(tuple(moment for _, moment in slots))
    return tuple(world)
