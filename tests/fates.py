"""All FATES of a PLAN, EVENT by EVENT, as [22] plays them."""

from itertools import product

from tests import oracles
from tests.makers import random_family, subsets


def event_behind(cells, event, bare=False):
    """(what the PLACES keep behind an EVENT, what is heard); cells are lists [promise, taken, closed].

    bare: a take of ballot 1 is refused by closed PLACES alone."""
    cells = [list(cell) for cell in cells]
    heard = None
    kind, at = event[0], event[1]
    promise, taken, closed = cells[at]
    if kind == "ask":
        if not closed and promise < event[2]:
            cells[at][0] = event[2]
            heard = taken
    elif kind == "take":
        if not closed and (promise <= event[2] or (bare and event[2] == 1)):
            cells[at][0] = max(promise, event[2])
            cells[at][1] = (event[2], event[3])
            heard = True
    elif kind == "copy":
        other = cells[event[2]]
        other[0] = max(promise, other[0])
        if taken[0] > other[1][0]:
            other[1] = taken
    elif kind == "lose":
        cells[at] = [0, (0, 0), False]
    else:
        cells[at][2] = True
    return tuple(tuple(cell) for cell in cells), heard


def start(many):
    return ((0, (0, 0), False),) * many


def steps_of(plan):
    """For (kind, number) of each ask and take STEP its position and its FAMILY."""
    return {step[:2]: (at, step[2]) for at, step in enumerate(plan[1]) if step[0] in ("ask", "take")}


def behind_step(plan, moment, cells):
    step = plan[1][moment]
    return cells if step[0] in ("ask", "take") else event_behind(cells, step)[0]


def whole(family, answers, head):
    return oracles.holds(family, [answer[2] for answer in answers if answer[:2] == head])


def is_legal(plan, fate):
    """Whether this is a FATE, for what is a tuple of tuples of triples, and whether it passes round 0 over."""
    many, steps = plan
    known, cells, given, empty = steps_of(plan), start(many), [], []
    if len(fate) != len(steps) + 1:
        return False, False
    for moment, row in enumerate(fate):
        for answer in row:
            kind, number, place = answer
            if (kind, number) not in known or answer in given:
                return False, False
            at, family = known[(kind, number)]
            if at >= moment or not any(place in lot for lot in family):
                return False, False
            event = ("ask", place, number + 1) if kind == "ask" else ("take", place, number + 1, 0)
            cells, heard = event_behind(cells, event)
            if heard is None:
                return False, False
            given.append(answer)
            if answer[:2] == ("ask", 1) and heard == (0, 0) and moment <= known.get(("take", 1), (9999,))[0]:
                empty.append(answer)
        if moment < len(steps):
            step = steps[moment]
            if step[0] == "take" and ("ask", step[1]) in known:
                if not whole(known[("ask", step[1])][1], given, ("ask", step[1])):
                    return False, False
            cells = behind_step(plan, moment, cells)
    passes = whole(known[("take", 0)][1], given, ("take", 0)) and whole(known[("ask", 1)][1], empty, ("ask", 1))
    return True, passes


def can_pass_by_fates(plan, bare=False):
    """Whether some FATE passes round 0 over, by all that can be, STEP by STEP."""
    many, steps = plan
    known = steps_of(plan)
    now = {(start(many), frozenset(), frozenset())}
    for moment in range(len(steps) + 1):
        now = grown(now, known, moment, bare)
        if moment < len(steps):
            step = steps[moment]
            if step[0] == "take" and ("ask", step[1]) in known:
                family = known[("ask", step[1])][1]
                now = {state for state in now if whole(family, state[1], ("ask", step[1]))}
            now = {(behind_step(plan, moment, cells), given, empty) for cells, given, empty in now}
    return any(whole(known[("take", 0)][1], given, ("take", 0)) and whole(known[("ask", 1)][1], empty, ("ask", 1))
               for _, given, empty in now)


def grown(now, known, moment, bare):
    """All that can be behind any answers at this MOMENT."""
    latest = known.get(("take", 1), (9999,))[0]
    fresh, found = list(now), set(now)
    while fresh:
        cells, given, empty = fresh.pop()
        for (kind, number), (at, family) in known.items():
            if at >= moment:
                continue
            for place in {place for lot in family for place in lot}:
                answer = (kind, number, place)
                event = ("ask", place, number + 1) if kind == "ask" else ("take", place, number + 1, 0)
                behind, heard = event_behind(cells, event, bare)
                if heard is None or answer in given:
                    continue
                more = empty | {answer} if answer[:2] == ("ask", 1) and heard == (0, 0) and moment <= latest else empty
                state = (behind, given | {answer}, more)
                if state not in found:
                    found.add(state)
                    fresh.append(state)
    return found


def random_fate(rng, plan, eager=0.5):
    """What is mostly a FATE: each PLACE answers now and then, as far as it can."""
    many, steps = plan
    known, cells, given, fate = steps_of(plan), start(many), set(), []
    for moment in range(len(steps) + 1):
        row = []
        able = [(kind, number, place) for (kind, number), (at, family) in known.items() if at < moment
                for place in sorted({one for lot in family for one in lot})]
        for answer in rng.sample(able, len(able)):
            kind, number, place = answer
            event = ("ask", place, number + 1) if kind == "ask" else ("take", place, number + 1, 0)
            behind, heard = event_behind(cells, event)
            if answer not in given and heard is not None and rng.random() < eager:
                cells = behind
                given.add(answer)
                row.append(answer)
        fate.append(tuple(row))
        if moment < len(steps):
            cells = behind_step(plan, moment, cells)
    return tuple(fate)


def random_plan(rng, many=None, others=3, asks=None, last=None):
    """A PLAN of few PLACES, with up to so many copies, losses and closes."""
    many = many or rng.choice((1, 2, 2, 3))
    places = tuple(range(many))
    heads = [("take", 0), ("ask", 1)]
    rng.shuffle(heads)
    if asks if asks is not None else rng.random() < 0.4:
        heads.insert(rng.randrange(heads.index(("take", 0)) + 1), ("ask", 0))
    if last if last is not None else rng.random() < 0.4:
        heads.insert(rng.randrange(heads.index(("ask", 1)) + 1, len(heads) + 1), ("take", 1))
    steps = [head + (random_family(rng, rng.choice(subsets(places)[1:])),) for head in heads]
    for _ in range(rng.randrange(others + 1)):
        kind = rng.choice(("copy", "copy", "lose", "lose", "close")) if many > 1 else rng.choice(("lose", "close"))
        picked = rng.sample(places, 2 if kind == "copy" else 1)
        steps.insert(rng.randrange(len(steps) + 1), (kind,) + tuple(picked))
    return many, tuple(steps)


def all_pairs(plan):
    """All pairs (moment, place)."""
    return list(product(range(len(plan[1]) + 1), range(plan[0])))


def road_ends(plan, pair):
    """All pairs to which a road leads from this one."""
    moment, place = pair
    found, now = {pair}, {place}
    for at in range(moment, len(plan[1])):
        step = plan[1][at]
        fresh = {one for one in now if step != ("lose", one)}
        if step[0] == "copy" and step[1] in now:
            fresh.add(step[2])
        now = fresh
        found |= {(at + 1, one) for one in now}
    return found
