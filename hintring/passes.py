"""How a round is passed over: answers of two rounds that no road joins.

A STAND is a pair (moment, place). The answers by which round 0 is passed over are told by
STANDS; a loss at the STEP behind a MOMENT parts a STAND from what comes, a copy spreads it.
Only three kinds of answers matter: asks of round 0 where there are such, takes of round 0,
and asks of round 1. Takes of round 1 do nothing but bar others."""


def step_at(plan, kind, number):
    """The position of the STEP of this kind and round; None if there is none."""
    for at, step in enumerate(plan[1]):
        if step[:2] == (kind, number):
            return at
    return None


def roads_of(plan):
    """For each STAND a dict of those to which a road leads from it, itself too."""
    many, steps = plan
    roads = {(len(steps), place): {(len(steps), place): True} for place in range(many)}
    for moment in reversed(range(len(steps))):
        step = steps[moment]
        for place in range(many):
            onward = [] if step == ("lose", place) else [place]
            if step[:2] == ("copy", place):
                onward.append(step[2])
            found = {stand: True for one in onward for stand in roads[(moment + 1, one)]}
            found[(moment, place)] = True
            roads[(moment, place)] = found
    return roads


def is_joined(roads, one, two):
    """Whether a road leads from one of these STANDS to the other."""
    return two in roads[one] or one in roads[two]


def open_stands(plan, kind, number):
    """For each PLACE that may answer this STEP the list of the STANDS at which it is not closed,
    ahead of the take STEP where it is an ask STEP."""
    _, steps = plan
    at = step_at(plan, kind, number)
    latest = step_at(plan, "take", number) if kind == "ask" else None
    if latest is None:
        latest = len(steps)
    moments = range(at + 1, latest + 1)
    return {place: [(moment, place) for moment in moments if not is_closed(steps[:moment], place)]
            for lot in steps[at][2] for place in lot}


def is_closed(steps, place):
    """Whether this PLACE is closed behind these STEPS."""
    closed = False
    for step in steps:
        if step == ("close", place):
            closed = True
        elif step == ("lose", place):
            closed = False
    return closed


def passing_answers(plan, bare):
    """The STANDS by which round 0 is passed over, a triple of lists: asks of round 0, asks of
    round 1, takes of round 0; None if it can not be. bare: a promise bars no take of round 0."""
    roads, steps = roads_of(plan), plan[1]
    asked = open_stands(plan, "ask", 1)
    for lot in steps[step_at(plan, "ask", 1)][2]:
        for answers in apart_rows(roads, asked, lot, []):
            takes = first_beside(plan, roads, "take", answers, bare)
            asks = []
            if step_at(plan, "ask", 0) is not None:
                asks = first_beside(plan, roads, "ask", answers, bare)
            if takes is not None and asks is not None:
                return asks, answers, takes
    return None


def apart_rows(roads, stands, lot, answers):
    """The list of all rows of STANDS, one for each PLACE of lot behind those of answers, no
    two of which are joined: who has heard of round 1 answers its ask no more."""
    if len(answers) == len(lot):
        return [answers]
    found = []
    for stand in stands[lot[len(answers)]]:
        if not any([is_joined(roads, stand, one) for one in answers]):
            found.extend(apart_rows(roads, stands, lot, answers + [stand]))
    return found


def first_beside(plan, roads, kind, answers, bare):
    """For the first LOT of this STEP of round 0 that can, the first STAND of each of its PLACES
    at which it can answer beside these answers to the ask of round 1; None if no LOT can."""
    # Who is barred from the ask of round 0 by another answer to it could have answered ahead of
    # the copy that bars it, so the first STANDS never bar one another.
    stands = open_stands(plan, kind, 0)
    free = {place: [stand for stand in stands[place] if is_free(roads, kind, stand, answers, bare)]
            for place in stands}
    for lot in plan[1][step_at(plan, kind, 0)][2]:
        if all([len(free[place]) > 0 for place in lot]):
            return [free[place][0] for place in lot]
    return None


def is_free(roads, kind, stand, answers, bare):
    """Whether a PLACE can answer this STEP of round 0 here, beside these answers."""
    if kind == "take" and not bare:
        return not any([is_joined(roads, stand, one) for one in answers])
    # At one MOMENT a PLACE can answer the ask of round 0 ahead of that of round 1, and take behind it.
    others = [one for one in answers if one != stand]
    if kind == "take":
        return not any([one in roads[stand] for one in others])
    return not any([stand in roads[one] for one in others])


def fate_of(plan, answers):
    """The FATE with just these answers, of what passing_answers tells."""
    asks, later, takes = answers
    fate = []
    for moment in range(len(plan[1]) + 1):
        row = [("ask", 0, place) for time, place in asks if time == moment]
        row = row + [("ask", 1, place) for time, place in later if time == moment]
        fate.append(tuple(row + [("take", 0, place) for time, place in takes if time == moment]))
    return tuple(fate)
