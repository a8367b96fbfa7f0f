"""STORES, told point by point as [23] says them, and random ones."""

import random
from itertools import combinations

from tests import oracles
from tests.makers import random_ring


def points_of(store):
    return store[2][0][0]


def owners(store, epoch, point):
    return oracles.line(store[2][epoch], point)[:store[0]]


def nodes_of(store):
    return {node for ring in store[2] for _, node in ring[1]}


def poured_points(store, act):
    """The points that one meets going on from the first one of a pour until its last one."""
    found = [act[4]]
    while found[-1] != act[5]:
        found.append((found[-1] + 1) % points_of(store))
    return found


def all_lots(some, need):
    """The FAMILY of all LOTS of so many of these, or of all if they are fewer."""
    some = tuple(sorted(some))
    return tuple(combinations(some, min(need, len(some))))


def book_by_acts(store, point):
    deeds = []
    for act in store[3]:
        if act[0] in ("put", "strike") and act[3] == point:
            homes = owners(store, act[4], point)
            deeds.append(act[:3] + (tuple(sorted(homes)), all_lots(homes, act[5])))
        elif act[0] in ("pour", "post") and point in poured_points(store, act):
            deeds.append(({"pour": "copy", "post": "send"}[act[0]], act[1], act[2], act[3]))
        elif act[0] == "crash":
            deeds.append(("lose", act[1], act[2]))
        else:
            deeds.append(("wait", act[1]))
    return max(nodes_of(store) | {0}) + 1, store[1], tuple(deeds)


def trial_by_acts(store, trial, point):
    number, epoch, need = trial[:3]
    many, life, deeds = book_by_acts(store, point)
    deeds = [("wait", deed[1]) if oracles.is_written(deed) else deed for deed in deeds]
    ticks = [act[1] for act in store[3]]
    tick = ticks[number] if number < len(ticks) else ticks[-1] if ticks else 0
    homes = owners(store, epoch, point)
    deeds.insert(number, ("put", tick, 1, tuple(sorted(homes)), all_lots(homes, need)))
    return many, life, tuple(deeds)


def weak_lots(store, trial, point):
    book = trial_by_acts(store, trial, point)
    return [lot for lot in all_lots(owners(store, trial[3], point), trial[4]) if oracles.misses(book, lot, 1)]


def random_store(rng, acts=None):
    points = rng.randrange(1, 13)
    epochs = tuple(random_ring(rng, points) for _ in range(rng.choice((1, 2, 2, 3))))
    store = rng.randrange(1, 5), rng.randrange(0, 4), epochs, ()
    nodes, rows, tick, version = sorted(nodes_of(store)), [], rng.randrange(0, 2), 0
    for _ in range(rng.randrange(0, 8) if acts is None else acts):
        tick += rng.choice((0, 0, 1, 2))
        version += rng.choice((1, 1, 2))
        kind = rng.choice(("put", "put", "strike", "pour", "pour", "post", "crash", "pause"))
        point, epoch = rng.randrange(points), rng.randrange(len(epochs))
        if kind in ("put", "strike") and owners(store, epoch, point):
            rows.append((kind, tick, version, point, epoch, rng.randrange(1, len(owners(store, epoch, point)) + 1)))
        elif kind in ("pour", "post") and len(nodes) > 1:
            rows.append((kind, tick) + tuple(rng.sample(nodes, 2)) + (rng.randrange(points), rng.randrange(points)))
        elif kind == "crash" and nodes:
            rows.append((kind, tick, rng.choice(nodes)))
        else:
            rows.append(("pause", tick))
    return store[:3] + (tuple(rows),)


def random_trial(rng, store):
    epochs = len(store[2])
    return (rng.randrange(len(store[3]) + 1), rng.randrange(epochs), rng.randrange(1, store[0] + 1),
            rng.randrange(epochs), rng.randrange(1, store[0] + 1))


def random_stores(seed, count):
    rng = random.Random(seed)
    return [random_store(rng) for _ in range(count)]


def stretch_points(store, stretch):
    return poured_points(store, (None,) * 4 + stretch)
