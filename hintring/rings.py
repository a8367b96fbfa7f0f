"""Rings: whose spots own which points, and what changes when spots come and go."""

from hintring.errors import NoPlace, NoPoint, Unfit
from hintring.plain import are_numbers, ascends, frozen, is_number, is_tuple


def is_ring(thing):
    """Whether thing is a RING."""
    if not is_tuple(thing, 2):
        return False
    points, spots = thing
    if not is_number(points) or points < 1 or not isinstance(spots, tuple):
        return False
    if not all([is_tuple(spot, 2) and are_numbers(spot) for spot in spots]):
        return False
    if not all([0 <= point < points and node >= 0 for point, node in spots]):
        return False
    return ascends([spot[0] for spot in spots])


def is_epochs(thing):
    """Whether thing is a tuple of one or more RINGS with as many points."""
    if not isinstance(thing, tuple) or len(thing) == 0:
        return False
    if not all([is_ring(ring) for ring in thing]):
        return False
    return all([ring[0] == thing[0][0] for ring in thing])


def refuse_point(points, point):
    """Raises NoPoint for what is no point of a RING of so many."""
    if not 0 <= point < points:
        raise NoPoint(point)


def line_of(ring, point):
    """The unlike NODES in the order of their first spot from point on."""
    ring = frozen(ring)
    refuse_point(ring[0], point)
    return line_from(ring, point)


def line_from(ring, point):
    """The same of tuples, for what is a point."""
    spots = ring[1]
    nodes = []
    for node in [spot[1] for spot in spots if spot[0] >= point] + [spot[1] for spot in spots]:
        if node not in nodes:
            nodes.append(node)
    return tuple(nodes)


def owners_of(ring, point, copies):
    """The first copies of the line of point."""
    return line_of(ring, point)[:copies]


def line_by_sites(ring, sites, point):
    """The line of point with the first NODE of each SITE ahead of all others."""
    ring, sites = frozen(ring), frozen(sites)
    refuse_point(ring[0], point)
    nodes = line_from(ring, point)
    for node in sorted(nodes):
        if node >= len(sites):
            raise NoPlace(node)
    firsts, others, met = [], [], []
    for node in nodes:
        if sites[node] in met:
            others.append(node)
        else:
            met.append(sites[node])
            firsts.append(node)
    return tuple(firsts + others)


def owners_by_sites(ring, sites, point, copies):
    """The first copies of the line by SITES of point."""
    return line_by_sites(ring, sites, point)[:copies]


def sections(epochs):
    """All SECTIONS of these EPOCHS, by ascending upto."""
    return sections_of(frozen(epochs))


def sections_of(epochs):
    """The same of tuples."""
    cuts = sorted(set([spot[0] for ring in epochs for spot in ring[1]]))
    if len(cuts) == 0:
        # Without a cut all points are one SECTION, told by the last one.
        cuts = [epochs[0][0] - 1]
    return tuple([(cuts[at - 1], cuts[at]) for at in range(len(cuts))])


def section_of(epochs, point):
    """The SECTION in which point lies."""
    epochs = frozen(epochs)
    refuse_point(epochs[0][0], point)
    rows = sections_of(epochs)
    for section in rows:
        if point <= section[1]:
            return section
    return rows[0]


def points_in(points, section):
    """How many points this SECTION has, in a RING of so many."""
    after, upto = section
    if after < upto:
        return upto - after
    return upto - after + points


def changed(ring, changes):
    """The RING behind these CHANGES: all that go, then all that come."""
    points, spots = frozen(ring)
    changes = frozen(changes)
    standing = {point: node for point, node in spots}
    for node, some in changes:
        if some == ():
            gone = [point for point, owner in spots if owner == node]
            if len(gone) == 0:
                raise NoPlace(node)
            for point in gone:
                del standing[point]
    for node, some in changes:
        for point in some:
            if point in standing or not 0 <= point < points:
                raise Unfit()
            standing[point] = node
    return points, tuple([(point, standing[point]) for point in sorted(standing)])


def moved(ring, other, copies):
    """The SECTIONS whose OWNERS change, each with who goes out and who comes in."""
    ring, other = frozen(ring), frozen(other)
    if ring[0] != other[0]:
        raise Unfit()
    rows = []
    for section in sections_of((ring, other)):
        old = line_from(ring, section[1])[:copies]
        new = line_from(other, section[1])[:copies]
        outs = tuple([node for node in old if node not in new])
        ins = tuple([node for node in new if node not in old])
        if outs != () or ins != ():
            rows.append((section, outs, ins))
    return tuple(rows)


def least_handed(ring, other, copies):
    """How many points must be handed on, each once for each OWNER that comes in."""
    rows = moved(ring, other, copies)
    return sum([points_in(ring[0], section) * len(ins) for section, _, ins in rows])
