"""All RUNS of a WEB, tick by tick: each choice of ticks, each order within a tick."""

from functools import lru_cache
from itertools import product

from tests.makers import subsets


def random_web(rng, many=None, most_rules=3):
    """A WEB of few PLACES, ticks and RULES."""
    many = many or rng.choice((2, 3, 3, 4))
    rules = []
    for _ in range(rng.choice((0, 1) + (2, most_rules, most_rules) * 2)):
        start = rng.choice((0, 0, 0, 1, 2, 3))
        stop = start + rng.choice((0, 1, 2, 4, 6, 8, 9))
        if rng.random() < 0.5:
            rules.append(("copy", tuple(rng.sample(range(many), 2)), rng.randrange(1, 4), start, stop))
        else:
            some = tuple(sorted(rng.sample(range(many), rng.randrange(2, many + 1))))
            rules.append(("meet", some, rng.randrange(1, 4), start, stop))
    return many, tuple(rules)


def behind(cells, event):
    """The CELLS behind a deed of a RULE, or behind a PLACE took a VERSION."""
    fresh = list(cells)
    if event[0] == "take":
        fresh[event[2]] = max(fresh[event[2]], event[1])
    elif event[0] == "copy":
        one, other = event[1]
        fresh[other] = max(fresh[one], fresh[other])
    else:
        for place in event[1]:
            fresh[place] = max(cells[one] for one in event[1])
    return tuple(fresh)


@lru_cache(maxsize=None)
def behind_all(cells, events):
    """All CELLS that these events make of CELLS, in each order."""
    now = {(cells, events)}
    for _ in events:
        now = {(behind(one, left[at]), left[:at] + left[at + 1:]) for one, left in now for at in range(len(left))}
    return {one for one, _ in now}


def deed_choices(rules, gaps, tick):
    """All pairs (RULES that have a deed at this tick, how many ticks each is without one now)."""
    rows = []
    for rule, gap in zip(rules, gaps):
        _, _, every, start, stop = rule
        if not start < tick <= stop:
            rows.append([((), 0)])
        elif gap + 1 < every:
            rows.append([((), gap + 1), ((rule[:2],), 0)])
        else:
            rows.append([((rule[:2],), 0)])
    for some in product(*rows):
        yield sum((deeds for deeds, _ in some), ()), tuple(gap for _, gap in some)


def run_states(web, takings, upto):
    """For each tick the set of what can be at its end: pairs (CELLS, ticks without a deed of
    each RULE). takings are triples (tick, version, lot)."""
    many, rules = web
    now, rows = {((0,) * many, (0,) * len(rules))}, []
    for tick in range(upto + 1):
        takes = tuple(("take", version, place) for at, version, lot in takings if at == tick for place in lot)
        fresh = set()
        for cells, gaps in now:
            for deeds, left in deed_choices(rules, gaps, tick):
                fresh |= {(one, left) for one in behind_all(cells, deeds + takes)}
        now = fresh
        rows.append({cells for cells, _ in now})
    return rows


def hours_by_runs(web, lot, tick, upto):
    """For each PLACE the first tick at the end of which it holds it in all RUNS, or -1."""
    rows = run_states(web, ((tick, 1, lot),), upto)
    sure = [[all(cells[place] for cells in row) for row in rows] for place in range(web[0])]
    return tuple(row.index(True) if True in row else -1 for row in sure)


def can_be_late(web, lot, tick, rests, hours, upto):
    """Whether there is a RUN with deeds but strictly between these rests in which, at the end of
    each tick, just those hold it whose HOUR is not later."""
    cells = (0,) * web[0]
    gaps = [0] * len(web[1])
    for now in range(upto + 1):
        events = tuple(("take", 1, place) for place in lot) if now == tick else ()
        for at, ((kind, places, every, start, stop), (low, high)) in enumerate(zip(web[1], rests)):
            if start < now <= stop:
                able = not low < now < high
                gaps[at] = 0 if able else gaps[at] + 1
                events += ((kind, places),) if able else ()
                if gaps[at] >= every:
                    return False
        wanted = tuple(1 if 0 <= hour <= now else 0 for hour in hours)
        if wanted not in behind_all(cells, events):
            return False
        cells = wanted
    return True


def random_lots(rng, many, most=3):
    """A FAMILY of PLACES below many, of LOTS that are not ()."""
    lots = rng.sample(subsets(range(many))[1:], rng.randrange(1, most + 1))
    return tuple(sorted(one for one in lots if not any(set(other) < set(one) for other in lots)))

