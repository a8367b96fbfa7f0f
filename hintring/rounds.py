"""Rounds: what is promised and taken, ballot by ballot, and when a round can be passed over."""

from hintring.errors import NoPlace, Unfit
from hintring.families import is_family, lot_within
from hintring.passes import fate_of, is_joined, passing_answers, roads_of, step_at
from hintring.plain import frozen, is_number, is_tuple

AT_FIRST = (0, (0, 0), False)


def play(many, events):
    """What each PLACE keeps behind these EVENTS, and what is heard of each."""
    events = frozen(events)
    for event in events:
        for place in places_of(event):
            if not 0 <= place < many:
                raise NoPlace(place)
    return played_events(many, events)


def places_of(event):
    """The PLACES of an EVENT."""
    if event[0] in ("ask", "take"):
        return event[1:2]
    return event[1:]


def played_events(many, events):
    """The same as play, of tuples, for PLACES alone."""
    cells, heard = [AT_FIRST] * many, []
    for event in events:
        told = heard_of(cells[event[1]], event)
        heard.append(told)
        if event[0] == "copy":
            _, one, other = event
            cells[other] = merged_cells(cells[one], cells[other])
        else:
            cells[event[1]] = cell_behind(cells[event[1]], event, told)
    return tuple(cells), tuple(heard)


def heard_of(cell, event):
    """What is heard of an EVENT at a PLACE that keeps this: TAKEN, True, or None."""
    promise, taken, closed = cell
    if event[0] == "ask" and not closed and promise < event[2]:
        return taken
    if event[0] == "take" and not closed and promise <= event[2]:
        return True
    return None


def cell_behind(cell, event, told):
    """What a PLACE keeps behind an EVENT, no copy, of which this is heard."""
    promise, taken, closed = cell
    if event[0] == "lose":
        return AT_FIRST
    if event[0] == "close":
        return promise, taken, True
    if told is None:
        return cell
    if event[0] == "take":
        taken = event[2:]
    return event[2], taken, closed


def merged_cells(one, other):
    """What the second of two PLACES keeps behind a copy from the first one."""
    taken = other[1]
    if one[1][0] > taken[0]:
        taken = one[1]
    return max(one[0], other[0]), taken, other[2]


def source(answers):
    """The first of these TAKEN with the greatest ballot; (0, 0) if there is none."""
    answers = frozen(answers)
    best = answers[0] if len(answers) > 0 else (0, 0)
    for taken in answers:
        if taken[0] > best[0]:
            best = taken
    return best


def compare_put(state, seen, wanted):
    """What a state becomes if it is the one that was seen, else the state."""
    if seen == state:
        return wanted
    return state


def is_plan(thing):
    """Whether thing is a PLAN."""
    if not is_tuple(thing, 2):
        return False
    many, steps = thing
    if not is_number(many) or many < 1 or not isinstance(steps, tuple):
        return False
    if not all([is_plan_step(many, step) for step in steps]):
        return False
    heads = [step[:2] for step in steps]
    if [heads.count(head) for head in (("take", 0), ("ask", 1))] != [1, 1]:
        return False
    if heads.count(("ask", 0)) > 1 or heads.count(("take", 1)) > 1:
        return False
    if ("ask", 0) in heads and heads.index(("ask", 0)) > heads.index(("take", 0)):
        return False
    return ("take", 1) not in heads or heads.index(("ask", 1)) < heads.index(("take", 1))


def is_plan_step(many, step):
    """Whether this is, by itself, a STEP of a PLAN of so many PLACES."""
    if not isinstance(step, tuple) or len(step) < 2 or not is_number(step[1]):
        return False
    kind = step[0]
    if kind in ("ask", "take"):
        return len(step) == 3 and step[1] in (0, 1) and is_family(step[2], many)
    if not all([is_number(place) and 0 <= place < many for place in step[1:]]):
        return False
    if kind == "copy":
        return len(step) == 3 and step[1] != step[2]
    return kind in ("lose", "close") and len(step) == 2


def is_fate(plan, thing):
    """Whether thing is a FATE of the PLAN."""
    plan = frozen(plan)
    if not is_tuple(thing, len(plan[1]) + 1) or not all([isinstance(row, tuple) for row in thing]):
        return False
    if not all([is_answer(plan, moment, answer) for moment, row in enumerate(thing) for answer in row]):
        return False
    if not answers_differ(thing) or not all([have_asked(plan, thing, number) for number in (0, 1)]):
        return False
    rows = events_of(plan, thing)
    _, heard = played_events(plan[0], [event for _, event in rows])
    return all([told is not None for (_, event), told in zip(rows, heard) if event[0] in ("ask", "take")])


def is_answer(plan, moment, answer):
    """Whether this is a triple by which a PLACE may answer a STEP at this MOMENT."""
    if not is_tuple(answer, 3) or not all([is_number(part) for part in answer[1:]]):
        return False
    kind, number, place = answer
    if kind not in ("ask", "take"):
        return False
    at = step_at(plan, kind, number)
    return at is not None and at < moment and any([place in lot for lot in plan[1][at][2]])


def answers_differ(fate):
    """Whether no PLACE answers a STEP twice."""
    answers = [answer for row in fate for answer in row]
    return len(set(answers)) == len(answers)


def have_asked(plan, fate, number):
    """Whether a whole lot answered the ask STEP of this round ahead of its take STEP, if there are both."""
    ask, take = step_at(plan, "ask", number), step_at(plan, "take", number)
    if ask is None or take is None:
        return True
    places = [answer[2] for row in fate[:take + 1] for answer in row if answer[:2] == ("ask", number)]
    return lot_within(plan[1][ask][2], places)


def events_of(plan, fate):
    """The list of pairs (MOMENT, EVENT) of this FATE, ballots one more than rounds, states 0."""
    rows = []
    for moment, row in enumerate(fate):
        for kind, number, place in row:
            if kind == "ask":
                rows.append((moment, (kind, place, number + 1)))
            else:
                rows.append((moment, (kind, place, number + 1, 0)))
        for step in plan[1][moment:moment + 1]:
            if step[0] not in ("ask", "take"):
                rows.append((moment, step))
    return rows


def is_passed(plan, passing):
    """Whether round 0 is passed over in this FATE."""
    plan, passing = frozen(plan), frozen(passing)
    rows = events_of(plan, passing)
    _, heard = played_events(plan[0], [event for _, event in rows])
    latest = step_at(plan, "take", 1)
    if latest is None:
        latest = len(plan[1])
    took = [answer[2] for row in passing for answer in row if answer[:2] == ("take", 0)]
    asked = [event[1] for (moment, event), told in zip(rows, heard)
             if moment <= latest and event[0] == "ask" and event[2] == 2 and told == (0, 0)]
    steps = plan[1]
    return (lot_within(steps[step_at(plan, "take", 0)][2], took)
            and lot_within(steps[step_at(plan, "ask", 1)][2], asked))


def can_pass(plan):
    """Whether round 0 is passed over in some FATE."""
    return passing_answers(frozen(plan), False) is not None


def pass_fate(plan):
    """A FATE in which round 0 is passed over; None if there is none."""
    plan = frozen(plan)
    answers = passing_answers(plan, False)
    if answers is None:
        return None
    return fate_of(plan, answers)


def bare_pass(plan):
    """Whether a plain put can be passed over if PLACES take it whatever they promised."""
    plan = frozen(plan)
    if step_at(plan, "ask", 0) is not None:
        raise Unfit()
    return passing_answers(plan, True) is not None


def is_unjoined(plan, takes, answers):
    """Whether no road leads from one of takes to one of answers, nor back."""
    roads = roads_of(frozen(plan))
    answers = frozen(answers)
    return not any([is_joined(roads, one, two) for one in frozen(takes) for two in answers])
