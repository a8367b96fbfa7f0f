"""Trails that share no POINT, as many as can be: found one by one, earlier ones led anew.

A POINT is split in two: (moment, place, 0), where trails come in, and (moment, place, 1),
where they go out; the one step between the two lets just one trail through."""

SOURCE = (0, 0, 2)
GOAL = (0, 0, 3)


def steps_from(book, starts, some, node):
    """The list of what a trail may go to from here."""
    deeds = book[2]
    if node == SOURCE:
        return [(moment, place, 0) for moment, place in starts]
    moment, place, side = node
    if side == 0:
        return [(moment, place, 1)]
    if moment == len(deeds):
        return [GOAL] if place in some else []
    deed = deeds[moment]
    found = []
    if deed[0] != "lose" or deed[2] != place:
        found.append((moment + 1, place, 0))
    if deed[0] == "copy" and deed[2] == place:
        found.append((moment + 1, deed[3], 0))
    return found


def way_beside(book, starts, some, used):
    """For each part of a way from SOURCE to GOAL the part ahead of it: by steps that are not
    used, or back over used ones; None if there is no such way."""
    ahead = {SOURCE: SOURCE}
    waiting = [SOURCE]
    at = 0
    while at < len(waiting):
        node = waiting[at]
        at = at + 1
        onward = [other for other in steps_from(book, starts, some, node) if (node, other) not in used]
        for other in onward + [one for one, two in used if two == node]:
            if other not in ahead:
                ahead[other] = node
                waiting.append(other)
        if GOAL in ahead:
            return ahead
    return None


def disjoint_trails(book, starts, some):
    """The ascending tuple of as many trails as can be, from these POINTS to some at the last
    MOMENT, apart from one another."""
    used = {}
    ahead = way_beside(book, starts, some, used)
    while ahead is not None:
        node = GOAL
        while node != SOURCE:
            one = ahead[node]
            if (node, one) in used:
                del used[(node, one)]
            else:
                used[(one, node)] = True
            node = one
        ahead = way_beside(book, starts, some, used)
    return trails_of(used)


def trails_of(used):
    """The trails that these steps make."""
    behind = {one: other for one, other in used if one != SOURCE}
    trails = []
    for one, other in used:
        if one == SOURCE:
            moment, place, _ = other
            road = [place]
            node = behind[behind[other]]
            while node != GOAL:
                road.append(node[1])
                node = behind[behind[node]]
            trails.append((moment, tuple(road)))
    return tuple(sorted(trails))
