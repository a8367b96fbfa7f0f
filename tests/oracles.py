"""What the document defines, found by plain counts and walks, without the package."""

from functools import lru_cache
from itertools import combinations, product

from tests.makers import all_worlds, can_come, subsets


def is_written(deed):
    return deed[0] in ("put", "strike")


# Rings

def walk(points, start):
    """All points from start on, once round."""
    return [(start + step) % points for step in range(points)]


def line(ring, point):
    points, spots = ring
    at = dict(spots)
    nodes = []
    for one in walk(points, point):
        if one in at and at[one] not in nodes:
            nodes.append(at[one])
    return tuple(nodes)


def line_with_sites(ring, sites, point):
    nodes = line(ring, point)
    first = [node for k, node in enumerate(nodes) if sites[node] not in [sites[one] for one in nodes[:k]]]
    return tuple(first) + tuple(node for node in nodes if node not in first)


def section_with(epochs, point):
    """The SECTION in which point lies: back to the cut behind which it is, on to the next one."""
    points = epochs[0][0]
    cuts = {spot for ring in epochs for spot, _ in ring[1]}
    if not cuts:
        return points - 1, points - 1
    upto = next(one for one in walk(points, point) if one in cuts)
    after = (point - 1) % points
    while after not in cuts:
        after = (after - 1) % points
    return after, upto


# Families

def holds(family, some):
    return any(set(lot) <= set(some) for lot in family)


def minimal(sets):
    """Those of these sets that have no unlike one within them, as an ascending tuple of LOTS."""
    sets = [frozenset(one) for one in sets]
    return tuple(sorted({tuple(sorted(one)) for one in sets if not any(other < one for other in sets)}))


def family_where(places, test):
    """The FAMILY of the least sets of these places that pass."""
    return minimal([some for some in subsets(places) if test(some)])


# Worlds

def play(book, world):
    """The CELLS of all MOMENTS, and what each letter carries, each step as [3] says it."""
    many, _, deeds = book
    held = {place: 0 for place in range(many)}
    rows, loads = [tuple(held.values())], []
    for number, deed in enumerate(deeds):
        load = 0
        if is_written(deed):
            load = deed[2]
            for place in world[number][0]:
                held[place] = max(held[place], deed[2])
        elif deed[0] == "copy":
            if held[deed[2]] != 0:
                held[deed[3]] = max(held[deed[3]], held[deed[2]])
        elif deed[0] == "send":
            load = held[deed[2]]
        elif deed[0] == "lose":
            held[deed[2]] = 0
        loads.append(load)
        for source in range(number + 1):
            one = deeds[source]
            if is_written(one):
                homes = [place for place, moment in world[source][1] if moment == number + 1]
            elif one[0] == "send" and number + 1 in world[source]:
                homes = [one[3]]
            else:
                homes = []
            for place in homes:
                held[place] = max(held[place], loads[source])
        rows.append(tuple(held[place] for place in range(many)))
    return rows, loads


@lru_cache(maxsize=None)
def last_cells(book):
    """All CELLS behind all."""
    return {play(book, world)[0][-1] for world in all_worlds(book)}


def read(cells, some):
    return max([cells[place] for place in some] + [0])


def all_states(book):
    """For each MOMENT all that can be: pairs (cells, pairs (number of a send, what it carries)).

    Told MOMENT by MOMENT, so for BOOKS with more WORLDS than can be gone through."""
    many, _, deeds = book
    now = {((0,) * many, ())}
    rows = [now]
    for number, deed in enumerate(deeds):
        behind = set()
        for cells, loads in now:
            behind |= {(tuple(one), more) for one, more in effects(deed, number, list(cells), loads)}
        now = behind
        for source in range(number + 1):
            if can_come(book, source, number + 1):
                for place in targets(deeds[source]):
                    now |= {(got(cells, place, deeds[source], source, loads), loads) for cells, loads in now}
        rows.append(now)
    return rows


def targets(deed):
    if is_written(deed):
        return deed[3]
    return deed[3:] if deed[0] == "send" else ()


def got(cells, place, deed, source, loads):
    version = deed[2] if is_written(deed) else dict(loads)[source]
    return cells[:place] + (max(cells[place], version),) + cells[place + 1:]


def effects(deed, number, cells, loads):
    """All that this DEED makes of CELLS, without letters."""
    if is_written(deed):
        for some in subsets(deed[3]):
            if holds(deed[4], some):
                yield [deed[2] if place in some else now for place, now in enumerate(cells)], loads
        return
    if deed[0] == "send":
        loads = loads + ((number, cells[deed[2]]),)
    elif deed[0] == "copy":
        cells[deed[3]] = max(cells[deed[2]], cells[deed[3]])
    elif deed[0] == "lose":
        cells[deed[2]] = 0
    yield cells, loads


# Pasts and roads

def all_roads(book, start, place, moment):
    """All roads from place at start up to moment, wherever they end."""
    rows = [(place,)]
    for deed in book[2][start:moment]:
        rows = [road + (other,) for road in rows for other in range(book[0])
                if (other == road[-1] and deed[:1] + deed[2:] != ("lose", other))
                or (deed[0] == "copy" and deed[2:] == (road[-1], other))]
    return rows


def past_by_roads(book, some, moment):
    """The PAST of some at moment: who has a road to one of some."""
    return tuple(tuple(place for place in range(book[0])
                       if any(road[-1] in some for road in all_roads(book, start, place, moment)))
                 for start in range(moment + 1))


def past_walk(deeds, some):
    """The PAST of some behind these DEEDS, walked from the last MOMENT back to the first one."""
    lots = [set(some)]
    for deed in reversed(deeds):
        now = set(lots[-1])
        if deed[0] == "copy" and deed[3] in now:
            now.add(deed[2])
        elif deed[0] == "lose":
            now.discard(deed[2])
        lots.append(now)
    return lots[::-1]


def misses(book, some, version):
    """Whether some can miss version: each write from it has room beside the PAST."""
    lots = past_walk(book[2], some)
    return all(any(not set(lot) & lots[number + 1] for lot in deed[4])
               for number, deed in enumerate(book[2]) if is_written(deed) and deed[2] >= version)


# Ways

def all_ways(book, version):
    """All WAYS of this VERSION."""
    deeds, end = book[2], len(book[2])
    number = [k for k, deed in enumerate(deeds) if is_written(deed) and deed[2] == version][0]
    begun = [((moment, place, number),) for place in deeds[number][3]
             for moment in range(end + 1) if can_come(book, number, moment)]
    found = []
    while begun:
        way = begun.pop()
        moment, place, _ = way[-1]
        if not lost_between(deeds, place, moment, end):
            found.append(way)
        for k in range(moment, end):
            if deeds[k][0] in ("copy", "send") and deeds[k][2] == place \
                    and not lost_between(deeds, place, moment, k):
                for later in range(end + 1):
                    if later == k + 1 if deeds[k][0] == "copy" else can_come(book, k, later):
                        begun.append(way + ((later, deeds[k][3], k),))
    return found


def lost_between(deeds, place, moment, end):
    return any(deeds[k][0] == "lose" and deeds[k][2] == place for k in range(moment, end))


def guard_of(book, some, way):
    """The GUARD of some and a WAY."""
    lots, now = [tuple(some)], set(some)
    for number in reversed(range(len(book[2]))):
        deed = book[2][number]
        if deed[0] == "copy" and deed[3] in now:
            now.add(deed[2])
        elif deed[0] == "lose":
            now.discard(deed[2])
        elif deed[0] == "send" and number in [station[2] for station in way[1:]]:
            now.add(deed[2])
        lots.append(tuple(sorted(now)))
    return tuple(reversed(lots))


def does_show(book, some, way):
    lots = guard_of(book, some, way)
    return way[-1][1] in some and all(
        any(not set(lot) & set(lots[number + 1]) for lot in deed[4])
        for number, deed in enumerate(book[2]) if is_written(deed) and number > way[0][2])


def table(book, some, version):
    """The table of this VERSION, grown as [10] says it."""
    deeds, end = book[2], len(book[2])
    number = [k for k, deed in enumerate(deeds) if is_written(deed) and deed[2] == version][0]
    found = {(end, tuple(some), place, 0) for place in some}
    fresh = list(found)
    while fresh:
        state = fresh.pop()
        if state[0] != number + 1:
            for made in ahead_of(book, state):
                if made not in found:
                    found.add(made)
                    fresh.append(made)
    return tuple(sorted(found))


def ahead_of(book, state):
    moment, guard, place, comes = state
    number = moment - 1
    deed = book[2][number]
    more = lambda one: tuple(sorted(set(guard) | {one}))
    if is_written(deed):
        return [(number, guard, place, comes)] if any(not set(lot) & set(guard) for lot in deed[4]) else []
    if deed[0] == "copy":
        grown = more(deed[2]) if deed[3] in guard else guard
        second = [(number, grown, deed[2], 0)] if place == deed[3] and comes == 0 else []
        return [(number, grown, place, comes)] + second
    if deed[0] == "send":
        able = place == deed[3] and (comes == 0 or can_come(book, number, comes))
        return [(number, guard, place, comes)] + ([(number, more(deed[2]), deed[2], 0)] if able else [])
    if deed[0] == "lose":
        left = tuple(one for one in guard if one != deed[2])
        return [(number, left, place, moment if place == deed[2] and comes == 0 else comes)]
    return [(number, guard, place, comes)]


def does_begin(book, version, state):
    number = [k for k, deed in enumerate(book[2]) if is_written(deed) and deed[2] == version][0]
    moment, _, place, comes = state
    return moment == number + 1 and place in book[2][number][3] and (comes == 0 or can_come(book, number, comes))


def tuples_of(many, length):
    """All tuples of so many numbers below many."""
    return product(range(many), repeat=length)


def lots_of_size(owners, size):
    """All LOTS of so many of these owners, ascending."""
    return list(combinations(owners, size))
